/- Texts of one claim, joined: WO WP WQ WR. -/
import Derived.Test.YtdneobnnmmlebaaGreatDoorWN
/-
  The contract of the laws' awake; WalNone.
-/
namespace Go.Proofs.YtdneobnnmmlebaaGreatDoor
open Go.RowKit

/-- A disk without files tells nothing. -/
theorem seg_empty {n : Nat} {b : List UInt8} : ¬ Seg [] n b := fun ⟨_, h, _⟩ => by cases h
theorem tells_empty {F la sz : Nat} {m : List Rc} (h : Tells [] F la sz m) : F = 0 ∧ la = 0 ∧ sz = 0 ∧ m = [] := by
  rcases h with h | ⟨_, h⟩
  · obtain ⟨b, hb, _⟩ := h.beg
    exact absurd hb seg_empty
  · exact h
theorem opened_empty {F la sz : Nat} {l' : List Fl} (h : Opened [] F la sz l') : l' = [] := by
  apply List.eq_nil_iff_forall_not_mem.2
  intro f hf
  rcases (h.mem f).1 hf with ⟨h, _⟩ | ⟨_, _, _, _, _, h⟩ | ⟨q, h, _⟩ <;> cases h
theorem open_new {room : Int} {s' : St} {L : Lg} {m : List Rc} (h : OpenOk (newS room) s' L m) : s' = newS room ∧ L = ⟨0, 0, 0⟩ ∧ m = [] := by
  obtain ⟨h1, h2, h3, h4⟩ := tells_empty h.tells
  have h5 := opened_empty h.opened
  have h6 := h.room; have h7 := h.fuse; have h8 := h.off
  obtain ⟨a, b, c⟩ := L
  obtain ⟨f, r, u, o⟩ := s'
  simp only at h1 h2 h3 h5 h6 h7 h8
  subst h1 h2 h3 h4 h5
  refine ⟨?_, rfl, rfl⟩
  unfold newS at *
  simp only at h6 h7 h8
  rw [h6, h7, h8]
theorem fit_new {room : Int} (h0 : 0 ≤ room) (h1 : room ≤ 8388608) : Fit (newS room) := ⟨h0, h1, by simp [newS], by simp [newS], by simp [newS, usedL], by simp [newS]⟩
/-- A log begun on a new disk. -/
def begunS (l : List Rc) (room : Int) : St := { files := [(fileL 1, startT l, [])], room := room, fuse := -1, off := false }
theorem begun_run {l : List Rc} {room : Int} (h : ((startT l).length : Int) ≤ room) : startW l ⟨0, 0, 0⟩ (newS room) = (0, begunS l room) := start_fresh (by decide) h
theorem startT_nil : (startT []).length ≤ 53 := by
  unfold startT
  rw [framesL_nil, List.append_nil]
  exact head_small (by simp)
theorem begun_cr {room : Int} : CrI [] 0 (startL [] ⟨0, 0, 0⟩) (begunS [] room) :=
  ⟨[], [], 0, ⟨fresh_log [], by unfold mostS; simp, Nat.le_refl _⟩, fresh_lg [], rfl, Nat.zero_le _, Nat.le_refl _⟩
theorem crI_tells {m : List Rc} {sure : Nat} {s : St} (h : CrE m sure s) (hm : ∀ r ∈ m, rightR r) {F la sz : Nat} {recs : List Rc} (ht : Tells s.files F la sz recs) (hr : RiseF s.files) : recs = m := by
  obtain ⟨ini, rs, dl, h1, h3, _⟩ := h
  have := whole_log' (F := 1) (c := 0) (dl := dl) (Nat.le_refl _) h1.most (by unfold top; omega) (fun x hx r hr => hm r (by rw [← h3]; exact List.mem_append_left _ (List.mem_flatten.2 ⟨x, hx, hr⟩))) (fun r hr => hm r (by rw [← h3]; exact List.mem_append_right _ hr)) (by
    cases ini with
    | nil => exact .inl ⟨rfl, Nat.zero_le _⟩
    | cons x ini => exact .inr ⟨x, ini, rfl, Nat.zero_le _⟩)
  rw [← h1.files] at this
  rw [(tells_unique hr ht (.inl this)).2.2.2, h3]
theorem CrI.lasts {m : List Rc} {sure : Nat} {L : Lg} {s : St} (h : CrI m sure L s) : L.first = 1 ∧ 1 ≤ L.last ∧ L.last ≤ m.length + 1 := by
  obtain ⟨ini, rs, dl, h1, rfl, h3, h4, h5⟩ := h
  refine ⟨rfl, ?_, ?_⟩
  · show 1 ≤ 1 + ini.length; omega
  · show 1 + ini.length ≤ _; omega
theorem CrI.fit {m : List Rc} {sure : Nat} {L : Lg} {s : St} (h : CrI m sure L s) (hm : Small m) (hl : m.length ≤ 1000) (h0 : 0 ≤ s.room) (h1 : s.room ≤ 8388608) (h2 : -1 ≤ s.fuse) (h3 : s.fuse ≤ 9223372036854775807) : Fit s := by
  have hu := h.used
  have h4 := frames_small hm
  have h5 := head_small (n := 0) (by unfold top; omega)
  refine ⟨h0, h1, h2, h3, by omega, ?_⟩
  obtain ⟨ini, rs, dl, g1, _, _, _, g5⟩ := h
  rw [g1.files]
  unfold filesOf
  rw [List.length_append, fulls_len]
  simp; omega
/-- The record that awake puts. -/
def aR : Rc := ⟨3, 1, 1, 0, [97]⟩
theorem aR_small : Small [aR] := fun r hr => by
  obtain rfl : r = aR := by simpa using hr
  unfold rightR aR
  simp
def aS : St := begunS [] 10000
def aL : Lg := startL [] ⟨0, 0, 0⟩
theorem aw_used : usedL aS.files + (framesL [aR]).length ≤ 10000 := by
  have h1 := (begun_cr (room := 10000)).used
  have h2 := frames_small aR_small
  have h3 := head_small (n := 0) (by unfold top; omega)
  have h4 : usedL aS.files = (headL 0).length + (framesL []).length := h1
  rw [framesL_nil] at h4
  simp at h2 h4
  omega
theorem aw_append : (appendW [aR] aL aS).1 = 0 ∧ (appendW [aR] aL aS).2.off = false ∧ (appendW [aR] aL aS).2.room = 10000 ∧ (appendW [aR] aL aS).2.fuse = -1 ∧ CrI [aR] 0 (appendL [aR] aL) (appendW [aR] aL aS).2 := by
  have h := begun_cr (room := 10000)
  rcases crI_append h aR (by simp) rfl (by
    have := aw_used
    have e : (framesL [aR]).length = (frameL aR).length := by simp [framesL]
    rw [e] at this
    show ((usedL aS.files + (frameL aR).length : Nat) : Int) ≤ 10000
    omega) with ⟨a1, a2, a3, a4, a5⟩ | ⟨_, a2, _⟩
  · exact ⟨a1, a2, a3, a4 (by decide), a5⟩
  · exact absurd a2 (by decide)
theorem aw_sync : (syncS (fileL (appendL [aR] aL).last) (appendW [aR] aL aS).2).1 = 0 ∧ (syncS (fileL (appendL [aR] aL).last) (appendW [aR] aL aS).2).2.off = false ∧ (syncS (fileL (appendL [aR] aL).last) (appendW [aR] aL aS).2).2.room = 10000 ∧
    (syncS (fileL (appendL [aR] aL).last) (appendW [aR] aL aS).2).2.fuse = -1 ∧ CrI [aR] 1 (appendL [aR] aL) (syncS (fileL (appendL [aR] aL).last) (appendW [aR] aL aS).2).2 := by
  obtain ⟨_, h2, h3, h4, h5⟩ := aw_append
  rcases crI_sync h5 h2 with ⟨a1, a2, a3, a4, a5⟩ | ⟨_, a2, _⟩
  · exact ⟨a1, a2, a3.trans h3, (a4 (by rw [h4]; decide)).trans h4, a5⟩
  · rw [h4] at a2; exact absurd a2 (by decide)
theorem aw_lasts : (appendL [aR] aL).first = 1 ∧ (appendL [aR] aL).last = 1 := by
  have h : (headL 0).length < 2048 := by have := head_small (n := 0) (by unfold top; omega); omega
  have e : aL = lgOf 1 0 [] [] := fresh_lg []
  have e2 : aL.size = (headL 0).length := by rw [e]; unfold lgOf bodyB; simp [framesL_nil]
  unfold appendL
  rw [if_neg (by rw [e2]; omega), e]
  exact ⟨rfl, rfl⟩

set_option maxRecDepth 100000 in
set_option maxHeartbeats 4000000 in
theorem awake_any (G : GoodD) (V : GoodW G) (w : World) (ht : Tab w) : Calls Tryz.prog 7 #[] w fun e w' => e = .returned (.bool true) ∧ Below w.heap.size w w' := by
  have HN := Lib.hid (G.new 10000 w (by decide) (by decide))
  have Ht := Lib.hid ht
  clear ht
  go_enter Tryz.func7, Tryz.ntmps7
  go_wp2_with fail
  refine HN.out.mono ?_
  rintro e w1 ⟨a, F, rfl, hd1, hF1, hb1⟩
  have L1 : Hid (Lon G w.heap.size w1 a F (newS 10000)) := Lib.hid ⟨hd1, hF1, (TabB.of Ht.out).on hb1⟩
  have B1 := Lib.hid hb1
  have HO := Lib.hid (L1.out.opens V hb1.size (fit_new (by decide) (by decide)) rfl rfl)
  clear hd1 hF1 hb1 HN
  go_wp2_with fail
  refine HO.out.mono ?_
  rintro e w2 ⟨x, FX, A, n, cap, F2, s2, L, m, rfl, hl2, hok, hm, hn, _, _, _, _, _, hb2, hz2⟩
  obtain ⟨rfl, rfl, rfl⟩ := open_new hok
  obtain rfl : n = 0 := hm.symm
  have B2 := Lib.hid (B1.out.trans hb2)
  have Z2 := Lib.hid hz2
  have LA := Lib.hid hl2
  clear hl2 hok hm hn hb2 hz2 HO
  obtain ⟨wa, hwa⟩ : ∃ wa, wa = w2.alloc (.cells #[.int .i64 3, .int .i64 1, .int .i64 1, .int .i64 0, .string { data := #[97] }] 28) := ⟨_, rfl⟩
  have hba : Below w2.heap.size w2 wa := by rw [hwa]; exact (Below.refl _ _).alloc (Nat.le_refl _) _
  have Hwa := Lib.hid hwa
  have LB := Lib.hid (LA.out.below Z2.out hba)
  have Ba := Lib.hid (B2.out.trans (hba.mono Z2.out))
  have Za : Hid (w.heap.size ≤ wa.heap.size) := Lib.hid (Nat.le_trans Z2.out hba.size)
  have HS := Lib.hid (LB.out.starts Za.out (fit_new (by decide) (by decide)) (by show ([] : List Fl).length ≤ 999999; decide) rfl [] none 0 0 (fun _ h => by cases h) rfl (fun j v hj => by simp [rcC] at hj) (fun _ _ e => by cases e) (by simp [framesL]) (by unfold mostS; decide))
  rw [begun_run (by have := startT_nil; omega)] at HS
  have hxr : wa.cell? ⟨w2.heap.size, 0, none⟩ = some (.int .i64 3) ∧ wa.cell? ⟨w2.heap.size, 0 + 1, none⟩ = some (.int .i64 1) ∧ wa.cell? ⟨w2.heap.size, 0 + 2, none⟩ = some (.int .i64 1) ∧ wa.cell? ⟨w2.heap.size, 0 + 3, none⟩ = some (.int .i64 0) ∧ wa.cell? ⟨w2.heap.size, 0 + 4, none⟩ = some (.string { data := #[97] }) := by
    rw [hwa]
    exact ⟨by simp, by simp, by simp, by simp, by simp⟩
  have Hxr := Lib.hid hxr
  have hxl : w2.heap.size < wa.heap.size := by rw [hwa]; simp
  have Hxl := Lib.hid hxl
  have Hxn := Lib.hid (LA.out.new (Nat.le_refl w2.heap.size))
  obtain ⟨g, hg⟩ : ∃ g, g = w2.heap.size := ⟨_, rfl⟩
  rw [← hg] at Hxr Hxl Hxn
  have Hg := Lib.hid hg
  clear hwa hba hxr hxl hg
  go_wp2_with fail
  rw [← Hg.out, ← Hwa.out]
  refine HS.out.mono ?_
  rintro e w3 ⟨rfl, F3, FX3, _, hl3, ho3, hF3, hX3, hb3, hz3⟩
  have L3 := Lib.hid (hl3 rfl)
  have B3 := Lib.hid (Ba.out.trans hb3)
  have Z3 := Lib.hid hz3
  have x0 := (ho3.cell (p := ⟨g, 0, none⟩) Hxl.out (fun h => h.elim Hxn.out.1 Hxn.out.2)).trans Hxr.out.1
  have x1 := (ho3.cell (p := ⟨g, 0 + 1, none⟩) Hxl.out (fun h => h.elim Hxn.out.1 Hxn.out.2)).trans Hxr.out.2.1
  have x2 := (ho3.cell (p := ⟨g, 0 + 2, none⟩) Hxl.out (fun h => h.elim Hxn.out.1 Hxn.out.2)).trans Hxr.out.2.2.1
  have x3 := (ho3.cell (p := ⟨g, 0 + 3, none⟩) Hxl.out (fun h => h.elim Hxn.out.1 Hxn.out.2)).trans Hxr.out.2.2.2.1
  have x4 := (ho3.cell (p := ⟨g, 0 + 4, none⟩) Hxl.out (fun h => h.elim Hxn.out.1 Hxn.out.2)).trans Hxr.out.2.2.2.2
  have hgl3 : g < w3.heap.size := Nat.lt_of_lt_of_le Hxl.out ho3.size
  have Hxn3 : Hid (¬ F3 g ∧ ¬ FX3 g) := Lib.hid ⟨fun h => (hF3 g h).elim Hxn.out.1 (fun h => by have := Hxl.out; omega), fun h => (hX3 g h).elim Hxn.out.2 (fun h => by have := Hxl.out; omega)⟩
  have Hx3 := Lib.hid (And.intro x0 (And.intro x1 (And.intro x2 (And.intro x3 (And.intro x4 hgl3)))))
  have Hb97 : Hid (bs [97] = { data := #[97] }) := Lib.hid (by rw [bs_eq])
  obtain ⟨wb, hwb⟩ : ∃ wb, wb = w3.alloc (.cells #[.int .i64 3, .int .i64 1, .int .i64 1, .int .i64 0, .string { data := #[97] }] 28) := ⟨_, rfl⟩
  have hbb : Below w3.heap.size w3 wb := by rw [hwb]; exact (Below.refl _ _).alloc (Nat.le_refl _) _
  have LC := Lib.hid (L3.out.below Z3.out hbb)
  have Bb := Lib.hid (B3.out.trans (hbb.mono Z3.out))
  have Zb : Hid (w.heap.size ≤ wb.heap.size) := Lib.hid (Nat.le_trans Z3.out hbb.size)
  have hrow : RowAt wb (some ⟨w3.heap.size, 0, none⟩) (rcC [aR]) := by
    have := row_new w3 #[.int .i64 3, .int .i64 1, .int .i64 1, .int .i64 0, .string { data := #[97] }] 28
    rw [← hwb, ← Hb97.out] at this
    exact this
  have hAn : ∀ g' off, some (⟨w3.heap.size, 0, none⟩ : Addr) = some (⟨g', off, none⟩ : Addr) → 0 < 1 → ¬ F3 g' ∧ ¬ FX3 g' := fun g' off e _ => by
    injection e with e; injection e with e
    exact L3.out.new (Nat.le_of_eq e)
  have HA := Lib.hid (LC.out.appends (l := [aR]) (n := 1) (cap := 1) (A := some ⟨w3.heap.size, 0, none⟩) Zb.out (begun_cr.fit (m := []) (sure := 0) (fun _ h => by cases h) (by simp) (by decide) (by decide) (by decide) (by decide)) rfl aR_small.right rfl (by omega) hrow hAn (by have := frames_small aR_small; simp at this; omega) (by decide) (by unfold mostS; decide))
  have Hwb := Lib.hid hwb
  have Hx3b : Hid (wb.cell? ⟨g, 0, none⟩ = some (.int .i64 3) ∧ wb.cell? ⟨g, 0 + 1, none⟩ = some (.int .i64 1) ∧ wb.cell? ⟨g, 0 + 2, none⟩ = some (.int .i64 1) ∧ wb.cell? ⟨g, 0 + 3, none⟩ = some (.int .i64 0) ∧ wb.cell? ⟨g, 0 + 4, none⟩ = some (.string { data := #[97] }) ∧ g < wb.heap.size) := Lib.hid
    ⟨(hbb.cell (p := ⟨g, 0, none⟩) hgl3).trans x0, (hbb.cell (p := ⟨g, 0 + 1, none⟩) hgl3).trans x1, (hbb.cell (p := ⟨g, 0 + 2, none⟩) hgl3).trans x2, (hbb.cell (p := ⟨g, 0 + 3, none⟩) hgl3).trans x3, (hbb.cell (p := ⟨g, 0 + 4, none⟩) hgl3).trans x4, Nat.lt_of_lt_of_le hgl3 hbb.size⟩
  clear hl3 ho3 hF3 hX3 hb3 hz3 hwb hbb hrow hAn HS
  go_wp2_with fail
  rw [← Hwb.out]
  have hap := aw_append
  have hsy := aw_sync
  have hla := aw_lasts
  unfold aL at hap hsy hla
  unfold aS at hap hsy
  generalize appendL [aR] (startL [] ⟨0, 0, 0⟩) = Lp at *
  generalize appendW [aR] (startL [] ⟨0, 0, 0⟩) (begunS [] 10000) = r4 at *
  refine HA.out.mono ?_
  rintro e w4 ⟨rfl, F4, FX4, _, hl4, ho4, hF4, hX4, hb4, hz4⟩
  rw [hap.1]
  have L4 := Lib.hid (hl4 hap.1)
  have B4 := Lib.hid (Bb.out.trans hb4)
  have Z4 := Lib.hid hz4
  have hn3 := fun h : F3 g ∨ FX3 g => h.elim Hxn3.out.1 Hxn3.out.2
  have Hx4 : Hid (w4.cell? ⟨g, 0, none⟩ = some (.int .i64 3) ∧ w4.cell? ⟨g, 0 + 1, none⟩ = some (.int .i64 1) ∧ w4.cell? ⟨g, 0 + 2, none⟩ = some (.int .i64 1) ∧ w4.cell? ⟨g, 0 + 3, none⟩ = some (.int .i64 0) ∧ w4.cell? ⟨g, 0 + 4, none⟩ = some (.string { data := #[97] }) ∧ g < w4.heap.size) := Lib.hid
    ⟨(ho4.cell (p := ⟨g, 0, none⟩) Hx3b.out.2.2.2.2.2 hn3).trans Hx3b.out.1, (ho4.cell (p := ⟨g, 0 + 1, none⟩) Hx3b.out.2.2.2.2.2 hn3).trans Hx3b.out.2.1, (ho4.cell (p := ⟨g, 0 + 2, none⟩) Hx3b.out.2.2.2.2.2 hn3).trans Hx3b.out.2.2.1, (ho4.cell (p := ⟨g, 0 + 3, none⟩) Hx3b.out.2.2.2.2.2 hn3).trans Hx3b.out.2.2.2.1, (ho4.cell (p := ⟨g, 0 + 4, none⟩) Hx3b.out.2.2.2.2.2 hn3).trans Hx3b.out.2.2.2.2.1, Nat.lt_of_lt_of_le Hx3b.out.2.2.2.2.2 ho4.size⟩
  have Hxn4 : Hid (¬ F4 g ∧ ¬ FX4 g) := Lib.hid ⟨fun h => (hF4 g h).elim Hxn3.out.1 (fun h => by have := Hx3b.out.2.2.2.2.2; omega), fun h => (hX4 g h).elim Hxn3.out.2 (fun h => by have := Hx3b.out.2.2.2.2.2; omega)⟩
  have HY := Lib.hid (L4.out.syncs Z4.out (hap.2.2.2.2.fit aR_small (by simp) (by rw [hap.2.2.1]; decide) (by rw [hap.2.2.1]; decide) (by rw [hap.2.2.2.1]; decide) (by rw [hap.2.2.2.1]; decide)) hap.2.1 (by rw [hla.2]; decide) (by rw [hla.2]; unfold mostS; decide))
  have Hsy := Lib.hid hsy
  have Hla := Lib.hid hla
  clear hl4 ho4 hF4 hX4 hb4 hz4 hap hsy hla HA hn3
  go_wp2_with fail
  refine HY.out.mono ?_
  generalize syncS (fileL Lp.last) r4.2 = r5 at *
  rintro e w5 ⟨rfl, F5, FX5, _, hl5, ho5, hF5, hX5, hb5, hz5⟩
  rw [Hsy.out.1]
  have L5 := Lib.hid (hl5 Hsy.out.1)
  have B5 := Lib.hid (B4.out.trans hb5)
  have Z5 := Lib.hid hz5
  have hn4 := fun h : F4 g ∨ FX4 g => h.elim Hxn4.out.1 Hxn4.out.2
  have Hx5 : Hid (w5.cell? ⟨g, 0, none⟩ = some (.int .i64 3) ∧ w5.cell? ⟨g, 0 + 1, none⟩ = some (.int .i64 1) ∧ w5.cell? ⟨g, 0 + 2, none⟩ = some (.int .i64 1) ∧ w5.cell? ⟨g, 0 + 3, none⟩ = some (.int .i64 0) ∧ w5.cell? ⟨g, 0 + 4, none⟩ = some (.string { data := #[97] }) ∧ g < w5.heap.size) := Lib.hid
    ⟨(ho5.cell (p := ⟨g, 0, none⟩) Hx4.out.2.2.2.2.2 hn4).trans Hx4.out.1, (ho5.cell (p := ⟨g, 0 + 1, none⟩) Hx4.out.2.2.2.2.2 hn4).trans Hx4.out.2.1, (ho5.cell (p := ⟨g, 0 + 2, none⟩) Hx4.out.2.2.2.2.2 hn4).trans Hx4.out.2.2.1, (ho5.cell (p := ⟨g, 0 + 3, none⟩) Hx4.out.2.2.2.2.2 hn4).trans Hx4.out.2.2.2.1, (ho5.cell (p := ⟨g, 0 + 4, none⟩) Hx4.out.2.2.2.2.2 hn4).trans Hx4.out.2.2.2.2.1, Nat.lt_of_lt_of_le Hx4.out.2.2.2.2.2 ho5.size⟩
  have Hxn5 : Hid (¬ F5 g) := Lib.hid (fun h => (hF5 g h).elim Hxn4.out.1 (fun h => by have := Hx4.out.2.2.2.2.2; omega))
  have HP := Lib.hid (L5.out.lone.opens V Z5.out (Hsy.out.2.2.2.2.fit aR_small (by simp) (by rw [Hsy.out.2.2.1]; decide) (by rw [Hsy.out.2.2.1]; decide) (by rw [Hsy.out.2.2.2.1]; decide) (by rw [Hsy.out.2.2.2.1]; decide)) Hsy.out.2.1 Hsy.out.2.2.2.1)
  clear hl5 ho5 hF5 hX5 hb5 hz5 HY hn4
  go_wp2_with fail
  refine HP.out.mono ?_
  rintro e w6 ⟨x6, FX6, A6, n6, cap6, F6, s6, L6, m6, rfl, hl6, hok6, hm6, hn6, hr6, ho6, _, _, _, hb6, hz6⟩
  obtain rfl : m6 = [aR] := crI_tells Hsy.out.2.2.2.2.e aR_small.right hok6.tells (G.rise L5.out.d)
  obtain rfl : n6 = 1 := hm6.symm
  have hX6 : V.X w6 x FX5 a Lp := V.stay L5.out.x ho6.size fun k hk => ho6.block k (V.foot L5.out.x k hk) (fun hf => L5.out.apart k hf hk)
  have B6 := Lib.hid (B5.out.trans hb6)
  have HG := Lib.hid (fun q => V.segs x a FX5 Lp (w6.drewN q) (V.stay hX6 (Nat.le_refl _) fun _ _ => rfl) (by rw [Hla.out.1]; decide) (by rw [Hla.out.1, Hla.out.2]; decide) (by rw [Hla.out.2]; unfold mostS; decide))
  rw [Hla.out.1, Hla.out.2] at HG
  obtain ⟨b6, o6, rfl, hbl6, c0, c1, c2, c3, c4⟩ := row_rec hr6 (i := 0) (r := aR) rfl
  have y0 := (ho6.cell (p := ⟨g, 0, none⟩) Hx5.out.2.2.2.2.2 Hxn5.out).trans Hx5.out.1
  have y1 := (ho6.cell (p := ⟨g, 0 + 1, none⟩) Hx5.out.2.2.2.2.2 Hxn5.out).trans Hx5.out.2.1
  have y2 := (ho6.cell (p := ⟨g, 0 + 2, none⟩) Hx5.out.2.2.2.2.2 Hxn5.out).trans Hx5.out.2.2.1
  have y3 := (ho6.cell (p := ⟨g, 0 + 3, none⟩) Hx5.out.2.2.2.2.2 Hxn5.out).trans Hx5.out.2.2.2.1
  have y4 := (ho6.cell (p := ⟨g, 0 + 4, none⟩) Hx5.out.2.2.2.2.2 Hxn5.out).trans Hx5.out.2.2.2.2.1
  rw [show (aR).data = [97] from rfl, Hb97.out] at c4
  have hgl6 : g < w6.heap.size := Nat.lt_of_lt_of_le Hx5.out.2.2.2.2.2 ho6.size
  clear hl6 hok6 hm6 hn6 hr6 ho6 hb6 hz6 hX6 HP
  have k0 : w6.cell? ⟨b6, o6, none⟩ = some (.int .i64 3) := by simpa [aR] using c0
  have k1 : w6.cell? ⟨b6, o6 + 1, none⟩ = some (.int .i64 1) := by simpa [aR] using c1
  have k2 : w6.cell? ⟨b6, o6 + 2, none⟩ = some (.int .i64 1) := by simpa [aR] using c2
  have k3 : w6.cell? ⟨b6, o6 + 3, none⟩ = some (.int .i64 0) := by simpa [aR] using c3
  have k4 : w6.cell? ⟨b6, o6 + 4, none⟩ = some (.string { data := #[97] }) := by simpa [aR] using c4
  have heq : ∀ W : World, (binOp .eql 28 (.agg #[.int .i64 3, .int .i64 1, .int .i64 1, .int .i64 0, .string { data := #[97] }]) (.agg #[.int .i64 3, .int .i64 1, .int .i64 1, .int .i64 0, .string { data := #[97] }])).run Tryz.prog W = .ok (.bool true) W := fun W => by kernel_rfl
  clear c0 c1 c2 c3 c4
  go_wp2_with fail
  go_quiet ((go_at_call 23; exact Calls.quiet_of (HG.out _)))
  go_wp2
  go_ret
  exact ⟨rfl, by first | exact B6.out | exact below_drewN B6.out _⟩
end Go.Proofs.YtdneobnnmmlebaaGreatDoor

/-
  WalNone, from what it asks of a log that isn't there.
-/
namespace Go.Proofs.YtdneobnnmmlebaaGreatDoor
open Go.RowKit

/-- A law holds: it answers true and leaves what was there. -/
def Law7 (w : World) (e : Ending) (w' : World) : Prop := e = .returned (.bool true) ∧ Below w.heap.size w w'
set_option maxRecDepth 100000 in
set_option maxHeartbeats 4000000 in
theorem none_law7 (G : GoodD) (V : GoodW G) (N : NoneW) (A : Option Addr) (n cap : Nat) (w : World) (ht : Tab w) : Calls Tryz.prog 6 #[.slice A n cap] w (Law7 w) := by
  have HA := Lib.hid (awake_any G V w ht)
  clear ht
  have HN := Lib.hid N
  go_enter Tryz.func6, Tryz.ntmps6
  go_wp2_with (first
    | (go_at_call 7; refine HA.out.mono ?_; rintro e w1 ⟨rfl, hb1⟩; have B1 := Lib.hid hb1; clear hb1)
    | (go_at_call 10; refine (HN.out.opens _).mono ?_; rintro e w2 ⟨⟨A2, c2, rfl⟩, hb2⟩; have B2 := Lib.hid (B1.out.trans (hb2.mono B1.out.size)); clear hb2)
    | (go_at_call 11; refine (HN.out.start _ _ _ _).mono ?_; rintro e w3 ⟨rfl, hb3⟩; have B3 := Lib.hid (B2.out.trans (hb3.mono B2.out.size)); clear hb3)
    | (go_at_call 13; refine (HN.out.append _ _ _ _).mono ?_; rintro e w4 ⟨rfl, hb4⟩; have B4 := Lib.hid (B3.out.trans (hb4.mono B3.out.size)); clear hb4)
    | (go_at_call 14; refine (HN.out.sync _).mono ?_; rintro e w5 ⟨rfl, hb5⟩; have B5 := Lib.hid (B4.out.trans (hb5.mono B4.out.size)); clear hb5)
    | (go_at_call 23; refine (HN.out.segs _).mono ?_; rintro e w6 ⟨rfl, hb6⟩; have B6 := Lib.hid (B5.out.trans (hb6.mono B5.out.size)); clear hb6))
  go_ret
  exact ⟨rfl, B6.out⟩
end Go.Proofs.YtdneobnnmmlebaaGreatDoor

/-
  The contract of the reference's File.
-/
namespace Go.Proofs.YtdneobnnmmlebaaGreatDoor
open Go.RowKit

theorem conv_dig (W : World) (d : Nat) (hd : d ≤ 9) : (convert 50 9 (.slice (some ⟨W.heap.size, 0, none⟩) 1 1)).run Tryz.prog (W.alloc (.cells #[.int .u8 (48 + (d : Int))] 5)) = .ok (.string (bs [UInt8.ofNat (48 + d)])) (W.alloc (.cells #[.int .u8 (48 + (d : Int))] 5)) := by
  have h := World.ownsRow_lit (base := 0) (e := 5) (size := 1) W #[.int .u8 (48 + (d : Int))] 1 (Nat.zero_le _) (by unfold maxLen; omega) rfl
  have e : ([.int .u8 (48 + (d : Int))] : List Value) = byC [UInt8.ofNat (48 + d)] := by
    rw [byC_eq]
    show [Value.int .u8 (48 + (d : Int))] = [Value.int .u8 ((UInt8.ofNat (48 + d)).toNat : Int)]
    rw [UInt8.toNat_ofNat', show (48 + d) % 2 ^ 8 = 48 + d by omega, Int.natCast_add]; rfl
  have h : (W.alloc (.cells #[.int .u8 (48 + (d : Int))] 5)).ownsRow 0 5 1 (.slice (some ⟨W.heap.size, 0, none⟩) 1 1) 1 (byC [UInt8.ofNat (48 + d)]) := by rw [← e]; exact h
  exact own_conv h
set_option maxRecDepth 100000 in
set_option maxHeartbeats 4000000 in
theorem file_any (n : Nat) (w : World) (hn : n ≤ mostS) : Calls Tryz.prog 20 #[.int .i64 (n : Int)] w fun e w' => e = .returned (.string (bs (fileL n))) ∧ Below w.heap.size w w' := by
  have Hn := Lib.hid hn
  have Hcv := Lib.hid conv_dig
  clear hn
  go_enter Tryz.func20, Tryz.ntmps20
  go_wp2
  go_loopw [0, 3, 4] (fun nv sv iv wr => ∃ i : Nat, i ≤ 12 ∧ iv = .int .i64 i ∧ nv = .int .i64 ((n / 10 ^ i : Nat) : Int) ∧ sv = .string (bs (digsL i n)) ∧ Below w.heap.size w wr) (fun _ _ iv _ => 12 - (intOf iv).toNat)
  case atStart => exact ⟨0, by omega, rfl, by rw [Nat.pow_zero, Nat.div_one], by rw [digsL, bs_eq], Below.refl _ _⟩
  case round =>
    obtain ⟨i, hi, rfl, rfl, rfl, hb⟩ := hrel
    have Hb := Lib.hid hb
    clear hb
    by_cases hlt : i < 12
    · have hltz : (i : Int) < 12 := by omega
      obtain ⟨q, hq⟩ : ∃ q, q = n / 10 ^ i := ⟨_, rfl⟩
      have Hq : Hid (n / 10 ^ (i + 1) = q / 10) := Lib.hid (by rw [hq, Nat.pow_succ, Nat.div_div_eq_div_mul])
      have Hd : Hid (digsL (i + 1) n = UInt8.ofNat (48 + q % 10) :: digsL i n) := Lib.hid (by rw [hq]; rfl)
      rw [← hq]
      have hq9 : q ≤ 999999999999 := by rw [hq]; exact Nat.le_trans (Nat.div_le_self _ _) Hn.out
      clear hq
      have hrem : (q : Int).tmod 10 = ((q % 10 : Nat) : Int) := rfl
      have hquo : (q : Int).tdiv 10 = ((q / 10 : Nat) : Int) := rfl
      obtain ⟨d, hdd⟩ : ∃ d, d = q % 10 := ⟨_, rfl⟩
      rw [← hdd] at hrem Hd
      have hd9 : d ≤ 9 := by omega
      have hcv := Hcv.out wr d hd9
      obtain ⟨t, ht⟩ : ∃ t, t = bs (digsL i n) := ⟨_, rfl⟩
      have hts : t.size = i := by rw [ht, bs_size, digsL_len]
      have Ht := Lib.hid ht
      obtain ⟨c, hc⟩ : ∃ c, c = UInt8.ofNat (48 + d) := ⟨_, rfl⟩
      rw [← hc] at hcv Hd
      have hb1 : (bs [c]).size = 1 := bs_size _
      rw [← ht]
      clear ht hdd hc
      go_wp2
      go_roundw
      case rel =>
        refine ⟨i + 1, by omega, by go_num, by rw [Hq.out]; go_num, ?_, Hb.out.alloc Hb.out.size _⟩
        rw [Hd.out, Ht.out, bs_append]; rfl
      case measure => simp [intOf]; omega
    · obtain rfl : i = 12 := by omega
      obtain ⟨t, ht⟩ : ∃ t, t = bs (digsL 12 n) := ⟨_, rfl⟩
      have hts : t.size = 12 := by rw [ht, bs_size, digsL_len]
      have Ht : Hid (({ data := #[119] } : ByteArray) ++ t = bs (fileL n)) := Lib.hid (by
        rw [ht, show ({ data := #[119] } : ByteArray) = bs [119] by rw [bs_eq], bs_append]; rfl)
      rw [← ht]
      clear ht
      go_wp2
      go_ret
      exact ⟨by rw [← Ht.out]; rfl, Hb.out⟩
end Go.Proofs.YtdneobnnmmlebaaGreatDoor

/-
  WalAny, from what it asks of the program's disk and log.
-/
namespace Go.Proofs.YtdneobnnmmlebaaGreatDoor
open Go.RowKit

/-- A disk while texts are laid on it: no fuse, little in it. -/
structure Laid (i : Nat) (s : St) : Prop where
  off : s.off = false
  fuse : s.fuse = -1
  room : s.room = 8388608
  used : usedL s.files ≤ i * 5000
  len : s.files.length ≤ i
theorem laid_fit {i : Nat} {s : St} (h : Laid i s) (hi : i ≤ 8) : Fit s := by
  obtain ⟨h1, h2, h3, h4, h5⟩ := h
  exact ⟨by rw [h3]; decide, by rw [h3]; decide, by rw [h2]; decide, by rw [h2]; decide, by omega, by omega⟩
theorem app_cases (nm b : List UInt8) (s : St) : (appendS nm b s).2 = s ∨ (appendS nm b s).2 = burnS s ∨ (appendS nm b s).2 = { burnS s with files := putF nm b s.files } := by
  unfold appendS
  split
  · exact .inl rfl
  · split
    · exact .inl rfl
    · split
      · exact .inl rfl
      · split
        · exact .inr (.inl rfl)
        · exact .inr (.inr rfl)
theorem laid_next {i : Nat} {s : St} (h : Laid i s) (nm b : List UInt8) (hb : b.length ≤ 5000) : Laid (i + 1) (appendS nm b s).2 := by
  obtain ⟨h1, h2, h3, h4, h5⟩ := h
  have hbn : burnS s = s := by
    obtain ⟨f, r, u, o⟩ := s
    simp only at h1 h2 h3
    subst h1 h2 h3
    simp [burnS]
  have hp := put_used nm b s.files
  have hself : Laid (i + 1) s := ⟨h1, h2, h3, Nat.le_trans h4 (Nat.mul_le_mul_right _ (Nat.le_succ _)), Nat.le_succ_of_le h5⟩
  rcases app_cases nm b s with e | e | e
  · rw [e]; exact hself
  · rw [e, hbn]; exact hself
  · rw [e, hbn]
    refine ⟨h1, h2, h3, ?_, ?_⟩
    · show usedL (putF nm b s.files) ≤ (i + 1) * 5000
      rw [Nat.succ_mul]
      exact Nat.le_trans hp.1 (Nat.add_le_add h4 hb)
    · show (putF nm b s.files).length ≤ i + 1
      exact Nat.le_trans hp.2 (Nat.succ_le_succ h5)
structure AnyI (G : GoodD) (B : Nat) (w : World) (a : Addr) (i : Nat) (wr : World) : Prop where
  ex : ∃ F s, Lon G B wr a F s ∧ Laid i s
  since : Below B w wr
  big : B ≤ wr.heap.size

/-- Below, and then only from B on. -/
theorem below_trans' {B : Nat} {u v w : World} (h : Below u.heap.size u v) (hB : B ≤ u.heap.size) (k : Below B v w) : Below B u w :=
  ⟨k.os.trans h.os, k.tape.trans h.tape, k.output.trans h.output, Nat.le_trans h.size k.size, fun i hi => (k.block i hi).trans (h.block i (by omega))⟩
/-- The first opening, and what is known behind it. -/
structure Op1 (G : GoodD) (V : GoodW G) (B : Nat) (w0 : World) (a : Addr) (x : Addr) (FX : Nat → Prop) (A : Option Addr) (k : Nat) (F : Nat → Prop) (s0 s : St) (L : Lg) (m : List Rc) (w : World) : Prop where
  log : LogAt G V B w a F s x FX L
  fit2 : Fit s
  ok : OpenOk s0 s L m
  rise : RiseF s0.files
  fuse : s.fuse = -1
  mlen : m.length = k
  kmax : k ≤ 9223372036854775807
  row : RowAt w A (rcC m)
  far : ∀ g off, A = some (⟨g, off, none⟩ : Addr) → 0 < k → ¬ F g
  since : Below B w0 w
  big : B ≤ w.heap.size
theorem AnyI.opened {G : GoodD} {B : Nat} {w wr : World} {a : Addr} {i : Nat} (V : GoodW G) (h : AnyI G B w a i wr) (hi : i ≤ 8) :
    Calls Tryz.prog 10 #[.pointer (some a)] wr fun e w' => ∃ x FX A n cap F' s' L m, e = .returned (.tuple #[.pointer (some x), .slice A n cap, .int .i64 0]) ∧ ∃ s0, Op1 G V B w a x FX A n F' s0 s' L m w' := by
  obtain ⟨F, s, hl, hs⟩ := h.ex
  have hf := laid_fit hs hi
  refine (hl.opens V h.big hf hs.off hs.fuse).mono ?_
  rintro e w' ⟨x, FX, A, n, cap, F', s', L, m, he, hlog, hok, hm, hn, hr, _, _, _, hA, hb, hz⟩
  refine ⟨x, FX, A, n, cap, F', s', L, m, he, s, hlog, ?_, hok, G.rise hl.d, hok.fuse.trans hs.fuse, hm, hn, hr, fun g off e h0 => (hA g off e h0).2.1, h.since.trans hb, hz⟩
  have h1 := hok.used; have h2 := hok.len
  exact ⟨by rw [hok.room]; exact hf.room0, by rw [hok.room]; exact hf.room1, by rw [hok.fuse]; exact hf.fuse0, by rw [hok.fuse]; exact hf.fuse1, Nat.le_trans h1 hf.used, Nat.le_trans h2 hf.len⟩
section
variable {G : GoodD} {V : GoodW G} {B : Nat} {w0 w w' : World} {a x : Addr} {FX F : Nat → Prop} {A : Option Addr} {k : Nat} {s0 s : St} {L : Lg} {m : List Rc}
theorem Op1.later (h : Op1 G V B w0 a x FX A k F s0 s L m w) (hb : Below w.heap.size w w') : Op1 G V B w0 a x FX A k F s0 s L m w' :=
  ⟨h.log.below h.big hb, h.fit2, h.ok, h.rise, h.fuse, h.mlen, h.kmax, rowR_below h.row hb, h.far, h.since.trans (hb.mono h.big), Nat.le_trans h.big hb.size⟩
/-- Both openings. -/
structure Op2 (G : GoodD) (V : GoodW G) (B : Nat) (w0 : World) (a : Addr) (A : Option Addr) (k : Nat) (A4 : Option Addr) (k4 : Nat) (s : St) (m m4 : List Rc) (w : World) : Prop where
  row : RowAt w A (rcC m)
  mlen : m.length = k
  kmax : k ≤ 9223372036854775807
  row4 : RowAt w A4 (rcC m4)
  mlen4 : m4.length = k4
  kmax4 : k4 ≤ 9223372036854775807
  eq : m4 = m
  right : ∀ r ∈ m, rightR r
  disk : ∃ F4 s4, G.D w a F4 s4 ∧ Fit s4 ∧ s4.off = s.off ∧ s4.files = s.files
  since : Below B w0 w
  big : B ≤ w.heap.size
theorem Op1.again (h : Op1 G V B w0 a x FX A k F s0 s L m w) :
    Calls Tryz.prog 10 #[.pointer (some a)] w fun e w' => ∃ x A' n cap m', e = .returned (.tuple #[.pointer (some x), .slice A' n cap, .int .i64 0]) ∧ Op2 G V B w0 a A k A' n s m m' w' := by
  refine (h.log.lone.opens V h.big h.fit2 h.ok.off h.fuse).mono ?_
  rintro e w' ⟨x', FX', A', n, cap, F', s', L', m', he, hlog, hok, hm, hn, hr, ho, _, _, _, hb, hz⟩
  have ht := again_tells h.rise h.ok.tells h.ok.opened
  obtain ⟨e1, e2, e3, e4⟩ := tells_unique h.ok.opened.rise hok.tells ht
  have hop := hok.opened
  rw [e1, e2, e3] at hop
  have hf := again_files h.rise h.ok.tells h.ok.opened hop
  refine ⟨x', A', n, cap, m', he, ⟨row_only h.row ho (fun g off e h0 => h.far g off e (by rw [rcC_length, h.mlen] at h0; omega)), h.mlen, h.kmax, hr, hm, hn, e4, tells_right h.ok.tells, ⟨F', s', hlog.d, ?_, hok.off.trans h.ok.off.symm, hf⟩, h.since.trans hb, hz⟩⟩
  have h1 := hok.used; have h2 := hok.len
  exact ⟨by rw [hok.room]; exact h.fit2.room0, by rw [hok.room]; exact h.fit2.room1, by rw [hok.fuse]; exact h.fit2.fuse0, by rw [hok.fuse]; exact h.fit2.fuse1, Nat.le_trans h1 h.fit2.used, Nat.le_trans h2 h.fit2.len⟩
variable {A4 : Option Addr} {k4 ca cb : Nat} {m4 : List Rc}
theorem Op2.sames (h : Op2 G V B w0 a A k A4 k4 s m m4 w) : Calls Tryz.prog 18 #[.slice A k ca, .slice A4 k4 cb] w fun e w' => e = .returned (.bool true) ∧ Below w.heap.size w w' := by
  have := refsame_any m m4 A A4 k k4 ca cb w h.mlen h.mlen4 h.row h.row4 h.kmax h.kmax4
  rw [show sameB m m4 = true from sameB_iff.2 h.eq.symm] at this
  exact this
theorem Op2.rights (h : Op2 G V B w0 a A k A4 k4 s m m4 w) (W : World) (hb : Below w.heap.size w W) : Calls Tryz.prog 22 #[.slice A k ca] W fun e w' => e = .returned (.bool true) ∧ Below W.heap.size W w' := by
  have := allright_any m A k ca W h.mlen (rowR_below h.row hb) (fun r hr => by have := h.right r hr; unfold rightR at this; omega) h.kmax
  rw [show allB m = true by unfold allB; rw [List.all_eq_true]; exact fun r hr => decide_eq_true (h.right r hr)] at this
  exact this
theorem Op2.useds (h : Op2 G V B w0 a A k A4 k4 s m m4 w) (W : World) (hb : Below w.heap.size w W) : Calls Tryz.prog 21 #[.pointer (some a)] W fun e w' => e = .returned (.int .i64 (usedS s : Nat)) ∧ Below W.heap.size W w' := by
  obtain ⟨F4, s4, hd, hf, ho, he⟩ := h.disk
  have := G.used a F4 s4 W (G.below hd hb) hf
  rw [show usedS s4 = usedS s by unfold usedS; rw [ho, he]] at this
  exact this
end

set_option maxRecDepth 100000 in
set_option maxHeartbeats 8000000 in
theorem any_law (G : GoodD) (V : GoodW G) (l : List UInt8) (A : Option Addr) (n cap : Nat) (l2 : List (List UInt8)) (A2 : Option Addr) (n2 cap2 : Nat) (w : World) (hlen : l.length = n) (hrow : RowAt w A (byC l)) (hmax : n ≤ 9223372036854775807) (hlen2 : l2.length = n2) (hrow2 : RowAt w A2 (strC l2)) (hmax2 : n2 ≤ 9223372036854775807) (hall : ∀ x ∈ l2, x.length ≤ 9223372036854775807) (ht : Tab w) :
    Calls Tryz.prog 5 #[.slice A n cap, .slice A2 n2 cap2] w (Law7 w) := by
  have HA := Lib.hid (awake_any G V w ht)
  have Ht := Lib.hid ht
  clear ht
  have Hrow := Lib.hid hrow
  have Hrow2 := Lib.hid hrow2
  have Hl := Lib.hid hlen
  have Hl2 := Lib.hid hlen2
  have Hall := Lib.hid hall
  clear hrow hrow2 hlen hlen2 hall
  go_enter Tryz.func5, Tryz.ntmps5
  go_wp2_with fail
  refine HA.out.mono ?_
  rintro e w0 ⟨rfl, hb0⟩
  have B0 := Lib.hid hb0
  have HN := Lib.hid (G.new 8388608 w0 (by decide) (by decide))
  clear hb0 HA
  go_wp2_with fail
  refine HN.out.mono ?_
  rintro e w1 ⟨a, F, rfl, hd1, hF1, hb1⟩
  have I1 : Hid (AnyI G w0.heap.size w0 a 0 w1) := Lib.hid ⟨⟨F, newS 8388608, ⟨hd1, hF1, (TabB.of (TabB.at Ht.out B0.out)).on hb1⟩, ⟨rfl, rfl, rfl, by simp [newS, usedL], by simp [newS]⟩⟩, hb1, hb1.size⟩
  clear hd1 hF1 hb1 HN
  go_wp2
  go_loopw [7] (fun iv wr => ∃ i : Nat, i ≤ 8 ∧ i ≤ n ∧ i ≤ n2 ∧ iv = .int .i64 i ∧ AnyI G w0.heap.size w0 a i wr) (fun iv _ => 8 - (intOf iv).toNat)
  case atStart => exact ⟨0, by omega, by omega, by omega, rfl, I1.out⟩
  case round =>
    obtain ⟨i, hi8, hi, hi2, rfl, hI⟩ := hrel
    have HI := Lib.hid hI
    clear hI I1
    by_cases hlt : i < n
    · have hltz : (i : Int) < (n : Int) := by omega
      by_cases hlt2 : i < n2
      · have hltz2 : (i : Int) < (n2 : Int) := by omega
        by_cases hlt8 : i < 8
        · have hltz8 : (i : Int) < 8 := by omega
          obtain ⟨u, hu⟩ : ∃ u, l[i]? = some u := ⟨_, List.getElem?_eq_getElem (by rw [Hl.out]; exact hlt)⟩
          obtain ⟨t, ht⟩ : ∃ t, l2[i]? = some t := ⟨_, List.getElem?_eq_getElem (by rw [Hl2.out]; exact hlt2)⟩
          obtain ⟨b, off, rfl, hbl, hc⟩ := Hrow.out i (.int .u8 (u.toNat : Int)) (by rw [byC_eq, List.getElem?_map, hu]; rfl)
          obtain ⟨b2, off2, rfl, hbl2, hc2⟩ := row_str Hrow2.out i t ht
          have hw := B0.out.trans (HI.out.since.mono B0.out.size)
          have d0 := (hw.cell (p := ⟨b, off + i, none⟩) hbl).trans hc
          have d1 := (hw.cell (p := ⟨b2, off2 + i, none⟩) hbl2).trans hc2
          have ht9 := Hall.out t (List.mem_of_getElem? ht)
          have e1 : (bs t).size = t.length := bs_size _
          by_cases hlong : 5000 < t.length
          · have hlz : (5000 : Int) < (t.length : Int) := by omega
            clear hc hc2
            have Hw := Lib.hid hw
            clear hw
            go_wp2
            go_ret
            exact ⟨rfl, Hw.out⟩
          · have hlz : ¬ (5000 : Int) < (t.length : Int) := by omega
            have hul := u.toNat_lt
            have hrem : (u.toNat : Int).tmod 9 = ((u.toNat % 9 : Nat) : Int) := rfl
            have hbw : b < wr.heap.size := Nat.lt_of_lt_of_le hbl hw.size
            have hbw2 : b2 < wr.heap.size := Nat.lt_of_lt_of_le hbl2 hw.size
            have Hbw := Lib.hid (And.intro hbw hbw2)
            have Hbl := Lib.hid (And.intro (Nat.lt_of_lt_of_le hbl B0.out.size) (Nat.lt_of_lt_of_le hbl2 B0.out.size))
            have hq9 : u.toNat % 9 < 9 := Nat.mod_lt _ (by decide)
            generalize u.toNat % 9 = q at *
            have hq : q ≤ mostS := by unfold mostS; omega
            obtain ⟨Fr, sr, hlr, hsr⟩ := HI.out.ex
            have Hlr := Lib.hid hlr
            have Hsr := Lib.hid hsr
            have HFi : Hid (∀ W : World, Calls Tryz.prog 20 #[.int .i64 ((IntKind.i64.wrap (u.toNat : Int)).tmod 9)] W fun e w' => e = .returned (.string (bs (fileL q))) ∧ Below W.heap.size W w') := Lib.hid (fun W => by
              rw [show IntKind.i64.wrap (u.toNat : Int) = (u.toNat : Int) by rw [IntKind.wrap_i64]; omega, hrem]
              exact file_any q W hq)
            clear hrem
            have HAp := Lib.hid (fun (W : World) (hb : Below wr.heap.size wr W) => (Hlr.out.below HI.out.big hb).ret' (Nat.le_trans HI.out.big hb.size) (G.append (fileL q) t a Fr sr W (G.below Hlr.out.d hb) (laid_fit Hsr.out (by omega)) (by rw [fileL_len]; decide) (by omega)))
            clear hc hc2 hw hbl hbl2 hu ht hlr hsr hbw hbw2
            go_wp2_with fail
            go_region_held3 (fun w' => w'.cell? ⟨b, off + i, none⟩ = some (.int .u8 (u.toNat : Int)) ∧ w'.cell? ⟨b2, off2 + i, none⟩ = some (.string (bs t)))
              (first
                | exact ⟨d0, d1⟩
                | exact ⟨(Hb5.out.cell (p := ⟨b, off + i, none⟩) Hbl.out.1).trans ((Hb4.out.cell (p := ⟨b, off + i, none⟩) Hbw.out.1).trans d0), (Hb5.out.cell (p := ⟨b2, off2 + i, none⟩) Hbl.out.2).trans ((Hb4.out.cell (p := ⟨b2, off2 + i, none⟩) Hbw.out.2).trans d1)⟩
                | exact ⟨(Hb4.out.cell (p := ⟨b, off + i, none⟩) Hbw.out.1).trans d0, (Hb4.out.cell (p := ⟨b2, off2 + i, none⟩) Hbw.out.2).trans d1⟩
                | go_keep)
              (first
                | (go_at_call 20; refine (HFi.out _).mono ?_; rintro e w4 ⟨rfl, hb4⟩; have Hb4 : Hid (Below wr.heap.size wr w4) := Lib.hid ((Below.refl _ wr).drew.trans hb4); clear hb4)
                | (go_at_call 19; refine (HAp.out _ Hb4.out).mono ?_; rintro e w5 ⟨rfl, F5, hl5, _, _, hb5, hz5⟩; have Hb5 := Lib.hid hb5; have Hl5 := Lib.hid hl5; have Hz5 := Lib.hid hz5; clear hb5 hl5 hz5))
            go_wp2
            go_roundw
            case rel => exact ⟨i + 1, by omega, by omega, by omega, by go_num, ⟨⟨F5, _, Hl5.out, laid_next Hsr.out (fileL q) t (by omega)⟩, HI.out.since.trans (below_trans' Hb4.out HI.out.big Hb5.out), Hz5.out⟩⟩
            case measure => simp [intOf]; omega
        · have hltz8 : ¬ (i : Int) < 8 := by omega
          have HO := Lib.hid (HI.out.opened V hi8)
          go_wp2_with fail
          refine HO.out.mono ?_
          rintro e w2 ⟨x2, FX2, A2', k2, c2, F2, s2, L2, m2, rfl, s0, hO⟩
          have HO2 := Lib.hid hO
          clear hO HO
          have HU := Lib.hid (G.used a F2 s2 w2 HO2.out.log.d HO2.out.fit2)
          go_wp2_with fail
          refine HU.out.mono ?_
          rintro e w3 ⟨rfl, hb3⟩
          have HO3 := Lib.hid (HO2.out.later hb3)
          have HP := Lib.hid (HO3.out.again)
          clear hb3 HU
          go_wp2_with fail
          refine HP.out.mono ?_
          rintro e w4 ⟨x4, A4, k4, c4, m4, rfl, hO4⟩
          have HO4 := Lib.hid hO4
          clear hO4 HP
          have HS := Lib.hid (HO4.out.sames (ca := c2) (cb := c4))
          have HR := Lib.hid (HO4.out.rights (ca := c2))
          have HV := Lib.hid HO4.out.useds
          go_wp2_with (first
            | (go_at_call 18; refine HS.out.mono ?_; rintro e w5 ⟨rfl, hb5⟩; have Hb5 := Lib.hid hb5; clear hb5)
            | (go_at_call 22; refine (HR.out _ Hb5.out).mono ?_; rintro e w6 ⟨rfl, hb6⟩; have Hb6 := Lib.hid (Hb5.out.trans (hb6.mono Hb5.out.size)); clear hb6)
            | (go_at_call 21; refine (HV.out _ Hb6.out).mono ?_; rintro e w7 ⟨rfl, hb7⟩; have Hb7 := Lib.hid (Hb6.out.trans (hb7.mono Hb6.out.size)); clear hb7))
          go_ret
          exact ⟨rfl, B0.out.trans ((HO4.out.since.trans (Hb7.out.mono HO4.out.big)).mono B0.out.size)⟩
      · have hltz2 : ¬ (i : Int) < (n2 : Int) := by omega
        have HO := Lib.hid (HI.out.opened V hi8)
        go_wp2_with fail
        refine HO.out.mono ?_
        rintro e w2 ⟨x2, FX2, A2', k2, c2, F2, s2, L2, m2, rfl, s0, hO⟩
        have HO2 := Lib.hid hO
        clear hO HO
        have HU := Lib.hid (G.used a F2 s2 w2 HO2.out.log.d HO2.out.fit2)
        go_wp2_with fail
        refine HU.out.mono ?_
        rintro e w3 ⟨rfl, hb3⟩
        have HO3 := Lib.hid (HO2.out.later hb3)
        have HP := Lib.hid (HO3.out.again)
        clear hb3 HU
        go_wp2_with fail
        refine HP.out.mono ?_
        rintro e w4 ⟨x4, A4, k4, c4, m4, rfl, hO4⟩
        have HO4 := Lib.hid hO4
        clear hO4 HP
        have HS := Lib.hid (HO4.out.sames (ca := c2) (cb := c4))
        have HR := Lib.hid (HO4.out.rights (ca := c2))
        have HV := Lib.hid HO4.out.useds
        go_wp2_with (first
          | (go_at_call 18; refine HS.out.mono ?_; rintro e w5 ⟨rfl, hb5⟩; have Hb5 := Lib.hid hb5; clear hb5)
          | (go_at_call 22; refine (HR.out _ Hb5.out).mono ?_; rintro e w6 ⟨rfl, hb6⟩; have Hb6 := Lib.hid (Hb5.out.trans (hb6.mono Hb5.out.size)); clear hb6)
          | (go_at_call 21; refine (HV.out _ Hb6.out).mono ?_; rintro e w7 ⟨rfl, hb7⟩; have Hb7 := Lib.hid (Hb6.out.trans (hb7.mono Hb6.out.size)); clear hb7))
        go_ret
        exact ⟨rfl, B0.out.trans ((HO4.out.since.trans (Hb7.out.mono HO4.out.big)).mono B0.out.size)⟩
    · have hltz : ¬ (i : Int) < (n : Int) := by omega
      have HO := Lib.hid (HI.out.opened V hi8)
      go_wp2_with fail
      refine HO.out.mono ?_
      rintro e w2 ⟨x2, FX2, A2', k2, c2, F2, s2, L2, m2, rfl, s0, hO⟩
      have HO2 := Lib.hid hO
      clear hO HO
      have HU := Lib.hid (G.used a F2 s2 w2 HO2.out.log.d HO2.out.fit2)
      go_wp2_with fail
      refine HU.out.mono ?_
      rintro e w3 ⟨rfl, hb3⟩
      have HO3 := Lib.hid (HO2.out.later hb3)
      have HP := Lib.hid (HO3.out.again)
      clear hb3 HU
      go_wp2_with fail
      refine HP.out.mono ?_
      rintro e w4 ⟨x4, A4, k4, c4, m4, rfl, hO4⟩
      have HO4 := Lib.hid hO4
      clear hO4 HP
      have HS := Lib.hid (HO4.out.sames (ca := c2) (cb := c4))
      have HR := Lib.hid (HO4.out.rights (ca := c2))
      have HV := Lib.hid HO4.out.useds
      go_wp2_with (first
        | (go_at_call 18; refine HS.out.mono ?_; rintro e w5 ⟨rfl, hb5⟩; have Hb5 := Lib.hid hb5; clear hb5)
        | (go_at_call 22; refine (HR.out _ Hb5.out).mono ?_; rintro e w6 ⟨rfl, hb6⟩; have Hb6 := Lib.hid (Hb5.out.trans (hb6.mono Hb5.out.size)); clear hb6)
        | (go_at_call 21; refine (HV.out _ Hb6.out).mono ?_; rintro e w7 ⟨rfl, hb7⟩; have Hb7 := Lib.hid (Hb6.out.trans (hb7.mono Hb6.out.size)); clear hb7))
      go_ret
      exact ⟨rfl, B0.out.trans ((HO4.out.since.trans (Hb7.out.mono HO4.out.big)).mono B0.out.size)⟩
end Go.Proofs.YtdneobnnmmlebaaGreatDoor
