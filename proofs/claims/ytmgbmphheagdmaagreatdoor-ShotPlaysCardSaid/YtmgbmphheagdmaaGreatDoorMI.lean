/-
  The contract of shot.Load.
-/
import Derived.Test.YtmgbmphheagdmaaGreatDoorMH
import Derived.Test.YtmgbmphheagdmaaGreatDoorME
import Derived.Test.YtmgbmphheagdmaaGreatDoorMF
import Derived.Test.YtmgbmphheagdmaaGreatDoorMG
namespace Go.Proofs.YtmgbmphheagdmaaGreatDoor
open Go.RowKit Go.Shelf

attribute [local go_sem] Oper.semAt_some

/-- A snapshot, or none, and an error's number, as three results. -/
def loadV (e : Int) : Option Sh → Value
  | some s => .tuple #[snapV s, .bool true, .int .i64 e]
  | none => .tuple #[.agg #[.int .i64 0, .int .i64 0, .string { data := #[] }], .bool false, .int .i64 e]
/-- What Load answers. -/
def LoadRet (d : St) (w : World) (e : Ending) (w' : World) : Prop :=
  (if d.off = true then e = .returned (loadV 7 none) else ∃ o, LoadF d.files o ∧ e = .returned (loadV 0 o)) ∧ Below w.heap.size w w'

/-- The files of snapshots. -/
def filesF (l : List Fl) : List Fl := l.filter fun f => keepS f.1
theorem filesL_on {s : St} (h : s.off = false) : filesL s = (filesF s.files).map (·.1) := by
  unfold filesL filesF
  rw [namesL_on h, List.filter_map]
  rfl
theorem whole_keep {f : Fl} {s : Sh} (h : WholeF f s) : keepS f.1 = true := by
  unfold keepS
  rw [h.2.1]
  exact decide_eq_true (form_shot _)
theorem whole_iff (f : Fl) (s : Sh) : WholeF f s ↔ WholeT f.1 (contF f) s := Iff.rfl
/-- None of the files from a place on is whole, and the one there is: it is the newest. -/
theorem load_back {l : List Fl} (hr : RiseF l) {i : Nat} {f : Fl} {s : Sh} (hf : (filesF l)[i]? = some f) (hs : snapO f.1 (contF f) = some s) (hno : ∀ j g, i < j → (filesF l)[j]? = some g → snapO g.1 (contF g) = none) : LoadF l (some s) := by
  have hw : WholeF f s := snapO_some hs
  have hfm : f ∈ l := (List.mem_filter.1 (List.mem_of_getElem? hf)).1
  refine ⟨⟨f, hfm, hw⟩, fun g hg q hq => ?_⟩
  have hgm : g ∈ filesF l := List.mem_filter.2 ⟨hg, whole_keep hq⟩
  obtain ⟨j, hj⟩ := List.mem_iff_getElem?.1 hgm
  rcases Nat.lt_trichotomy i j with h | h | h
  · exact absurd hq (snapO_none (hno j g h hj) q)
  · subst h
    rw [hf] at hj
    injection hj with hj
    subst hj
    rw [whole_unique hq hw]
    exact Int.le_refl _
  · have hrise : RiseF (filesF l) := hr.sublist List.filter_sublist
    have h1 : ltL g.1 f.1 = true := by
      obtain ⟨h2, e2⟩ := List.getElem?_eq_some_iff.1 hj
      obtain ⟨h3, e3⟩ := List.getElem?_eq_some_iff.1 hf
      have := List.pairwise_iff_getElem.1 hrise j i h2 h3 h
      rw [e2, e3] at this
      exact this
    rw [hq.2.1, hw.2.1] at h1
    have h4 := (shot_lt (okS_lt hq.1) (okS_lt hw.1)).1 h1
    have := hq.1.1
    have := hw.1.1
    omega
theorem load_none {l : List Fl} (hno : ∀ (j : Nat) (g : Fl), (filesF l)[j]? = some g → snapO g.1 (contF g) = none) : LoadF l none := fun f hf q hq => by
  have hfm : f ∈ filesF l := List.mem_filter.2 ⟨hf, whole_keep hq⟩
  obtain ⟨j, hj⟩ := List.mem_iff_getElem?.1 hfm
  exact snapO_none (hno j f hj) q hq

/-- The cells of Load: its argument, its results. -/
structure LdC (w : World) (b : Nat) (a : Addr) : Prop where
  h1 : Holds w b 25 [.pointer (some a)]
  h2 : Holds w (b + 1) 33 [.int .i64 0, .int .i64 0, .string { data := #[] }]
  h3 : Holds w (b + 1 + 1) 4 [.bool false]
  h4 : Holds w (b + 1 + 1 + 1) 26 [.int .i64 0]
section
variable {w w' : World} {b : Nat} {a : Addr}
theorem LdC.lt (h : LdC w b a) : b + 1 + 1 + 1 < w.heap.size := h.h4.lt
theorem LdC.on {B : Nat} (h : LdC w b a) (hb : Below B w w') (hB : b + 1 + 1 + 1 < B) : LdC w' b a :=
  ⟨h.h1.below hb (by omega), h.h2.below hb (by omega), h.h3.below hb (by omega), h.h4.below hb hB⟩
theorem LdC.below (h : LdC w b a) (hb : Below w.heap.size w w') : LdC w' b a := h.on hb h.lt
theorem LdC.c1 (h : LdC w b a) : w.cell? ⟨b, 0, none⟩ = some (.pointer (some a)) := h.h1.cell rfl
theorem LdC.c2 (h : LdC w b a) : w.cell? ⟨b + 1, 0, none⟩ = some (.int .i64 0) := h.h2.cell rfl
theorem LdC.c3 (h : LdC w b a) : w.cell? ⟨b + 1, 1, none⟩ = some (.int .i64 0) := h.h2.cell rfl
theorem LdC.c4 (h : LdC w b a) : w.cell? ⟨b + 1, 2, none⟩ = some (.string { data := #[] }) := h.h2.cell rfl
theorem LdC.c5 (h : LdC w b a) : w.cell? ⟨b + 1 + 1, 0, none⟩ = some (.bool false) := h.h3.cell rfl
theorem LdC.c6 (h : LdC w b a) : w.cell? ⟨b + 1 + 1 + 1, 0, none⟩ = some (.int .i64 0) := h.h4.cell rfl
theorem LdC.f2 (h : LdC w b a) : w.frozen? ⟨b + 1, 0, none⟩ = false := h.h2.frozen 0
theorem LdC.f3 (h : LdC w b a) : w.frozen? ⟨b + 1, 1, none⟩ = false := h.h2.frozen 1
theorem LdC.f4 (h : LdC w b a) : w.frozen? ⟨b + 1, 2, none⟩ = false := h.h2.frozen 2
theorem LdC.f5 (h : LdC w b a) : w.frozen? ⟨b + 1 + 1, 0, none⟩ = false := h.h3.frozen 0
theorem LdC.f6 (h : LdC w b a) : w.frozen? ⟨b + 1 + 1 + 1, 0, none⟩ = false := h.h4.frozen 0
end
theorem ldC_new (w : World) (a : Addr) : LdC ((((w.alloc (.cells #[.pointer (some a)] 25)).alloc (.cells #[.int .i64 0, .int .i64 0, .string { data := #[] }] 33)).alloc (.cells #[.bool false] 4)).alloc (.cells #[.int .i64 0] 26)) w.heap.size a := by
  have h1 := (((Holds.new w 25 #[.pointer (some a)]).alloc (.cells #[.int .i64 0, .int .i64 0, .string { data := #[] }] 33)).alloc (.cells #[.bool false] 4)).alloc (.cells #[.int .i64 0] 26)
  have h2 := ((Holds.new (w.alloc (.cells #[.pointer (some a)] 25)) 33 #[.int .i64 0, .int .i64 0, .string { data := #[] }]).alloc (.cells #[.bool false] 4)).alloc (.cells #[.int .i64 0] 26)
  have h3 := (Holds.new ((w.alloc (.cells #[.pointer (some a)] 25)).alloc (.cells #[.int .i64 0, .int .i64 0, .string { data := #[] }] 33)) 4 #[.bool false]).alloc (.cells #[.int .i64 0] 26)
  have h4 := Holds.new (((w.alloc (.cells #[.pointer (some a)] 25)).alloc (.cells #[.int .i64 0, .int .i64 0, .string { data := #[] }] 33)).alloc (.cells #[.bool false] 4)) 26 #[.int .i64 0]
  simp only [World.size_alloc] at h2 h3 h4
  exact ⟨h1, h2, h3, h4⟩
/-- Load's results stored. -/
def resL (w : World) (b : Nat) (v0 v1 v2 v3 v4 : Value) : World := ((((w.setCell ⟨b + 1, 0, none⟩ v0).setCell ⟨b + 1, 1, none⟩ v1).setCell ⟨b + 1, 2, none⟩ v2).setCell ⟨b + 1 + 1, 0, none⟩ v3).setCell ⟨b + 1 + 1 + 1, 0, none⟩ v4
theorem resL_below {B : Nat} {u w : World} {b : Nat} (h : Below B u w) (hB : B ≤ b) (v0 v1 v2 v3 v4 : Value) : Below B u (resL w b v0 v1 v2 v3 v4) :=
  ((((h.setCell (p := ⟨b + 1, 0, none⟩) (Nat.le_succ_of_le hB) v0).setCell (p := ⟨b + 1, 1, none⟩) (Nat.le_succ_of_le hB) v1).setCell (p := ⟨b + 1, 2, none⟩) (Nat.le_succ_of_le hB) v2).setCell (p := ⟨b + 1 + 1, 0, none⟩) (Nat.le_succ_of_le (Nat.le_succ_of_le hB)) v3).setCell (p := ⟨b + 1 + 1 + 1, 0, none⟩) (Nat.le_succ_of_le (Nat.le_succ_of_le (Nat.le_succ_of_le hB))) v4
theorem resL_cells {w : World} {b : Nat} {a : Addr} (h : LdC w b a) (v0 v1 v2 v3 v4 : Value) :
    (resL w b v0 v1 v2 v3 v4).cell? ⟨b + 1, 0, none⟩ = some v0 ∧ (resL w b v0 v1 v2 v3 v4).cell? ⟨b + 1, 1, none⟩ = some v1 ∧ (resL w b v0 v1 v2 v3 v4).cell? ⟨b + 1, 2, none⟩ = some v2 ∧ (resL w b v0 v1 v2 v3 v4).cell? ⟨b + 1 + 1, 0, none⟩ = some v3 ∧ (resL w b v0 v1 v2 v3 v4).cell? ⟨b + 1 + 1 + 1, 0, none⟩ = some v4 := by
  have k2 := ((((h.h2.set 0 v0).set 1 v1).set 2 v2).aside (a := ⟨b + 1 + 1, 0, none⟩) (by simp) v3).aside (a := ⟨b + 1 + 1 + 1, 0, none⟩) (by simp <;> omega) v4
  have k3 := ((((h.h3.aside (a := ⟨b + 1, 0, none⟩) (by simp) v0).aside (a := ⟨b + 1, 1, none⟩) (by simp) v1).aside (a := ⟨b + 1, 2, none⟩) (by simp) v2).set 0 v3).aside (a := ⟨b + 1 + 1 + 1, 0, none⟩) (by simp) v4
  have k4 := ((((h.h4.aside (a := ⟨b + 1, 0, none⟩) (by simp <;> omega) v0).aside (a := ⟨b + 1, 1, none⟩) (by simp <;> omega) v1).aside (a := ⟨b + 1, 2, none⟩) (by simp <;> omega) v2).aside (a := ⟨b + 1 + 1, 0, none⟩) (by simp) v3).set 0 v4
  exact ⟨k2.cell rfl, k2.cell rfl, k2.cell rfl, k3.cell rfl, k4.cell rfl⟩
theorem resL_keeps {w : World} {b : Nat} (v0 v1 v2 v3 v4 : Value) : KeepsOthers w (resL w b v0 v1 v2 v3 v4) :=
  ((((KeepsOthers.setCell _ _ _).trans (KeepsOthers.setCell _ _ _)).trans (KeepsOthers.setCell _ _ _)).trans (KeepsOthers.setCell _ _ _)).trans (KeepsOthers.setCell _ _ _)
theorem used_mem {l : List Fl} {f : Fl} (h : f ∈ l) : sizeF f ≤ usedL l := by
  induction l with
  | nil => cases h
  | cons g l ih =>
    simp only [usedL]
    rcases List.mem_cons.1 h with rfl | h
    · omega
    · have := ih h; omega
theorem KeepsFrom.of_below {B : Nat} {W W' : World} (h : Below W.heap.size W W') : KeepsFrom B W W' :=
  ⟨h.size, fun i _ _ hi _ => (h.block i (Array.getElem?_eq_some_iff.1 hi).1).trans hi⟩

set_option maxRecDepth 100000 in
set_option maxHeartbeats 8000000 in
theorem load_any (a : Addr) (F : Nat → Prop) (d : St) (w : World) (hd : good.D w a F d) (hfit : Fit d) (ht : Tab w) : Calls Tryz.prog 24 #[.pointer (some a)] w (LoadRet d w) := by
  have HD := Lib.hid (fun (W : World) (hb : Below w.heap.size w W) => good.down a F d W (good.below hd hb))
  obtain ⟨w0, hw0⟩ : ∃ w0, w0 = (((w.alloc (.cells #[.pointer (some a)] 25)).alloc (.cells #[.int .i64 0, .int .i64 0, .string { data := #[] }] 33)).alloc (.cells #[.bool false] 4)).alloc (.cells #[.int .i64 0] 26) := ⟨_, rfl⟩
  have B0 : Hid (Below w.heap.size w w0) := Lib.hid (by rw [hw0]; exact ((((Below.refl _ _).alloc (Nat.le_refl _) _).alloc (by simp) _).alloc (by simp; omega) _).alloc (by simp; omega) _)
  have C0 : Hid (LdC w0 w.heap.size a) := Lib.hid (by rw [hw0]; exact ldC_new w a)
  have Hw0 := Lib.hid hw0
  clear hw0
  by_cases ho : d.off = true
  · rw [ho] at HD
    have HU : Hid (∀ e w', e = .returned (loadV 7 none) → Below w.heap.size w w' → LoadRet d w e w') := Lib.hid (fun e w' he hb => ⟨by rw [if_pos ho]; exact he, hb⟩)
    clear ho hd hfit ht
    refine (callsIn_wide (n := 6)).1 ?_
    refine callsIn_of_wp_marks Tryz.func24 rfl trivial ?_ rfl
    simp only [Tryz.ntmps24, List.size_toArray, List.length_cons, List.length_nil, Nat.reduceAdd, Nat.reduceSub, Array.replicate_succ, Array.replicate_zero, List.push_toArray, List.append_toArray, List.nil_append, List.cons_append]
    gi_wp2_with (refine ⟨trivial, ?_⟩; gi_at_call 54; rw [← Hw0.out]; refine (callsIn_wide.2 (HD.out _ B0.out)).mono ?_; rintro e w1 ⟨rfl, hb1⟩; have H1 := C0.out.below hb1; have B1 := Lib.hid (B0.out.trans (below_mono' hb1 B0.out.size)); clear hb1; have hc1 := H1.c1; have hc2 := H1.c2; have hc3 := H1.c3; have hc4 := H1.c4; have hc5 := H1.c5; have hc6 := H1.c6; have hf2 := H1.f2; have hf3 := H1.f3; have hf4 := H1.f4; have hf5 := H1.f5; have hf6 := H1.f6)
    obtain ⟨wx, hwx⟩ : ∃ wx, wx = resL w1 w.heap.size (.int .i64 0) (.int .i64 0) (.string { data := #[] }) (.bool false) (.int .i64 7) := ⟨_, rfl⟩
    have HX := resL_cells H1 (.int .i64 0) (.int .i64 0) (.string { data := #[] }) (.bool false) (.int .i64 7)
    have BX := Lib.hid (resL_below B1.out (Nat.le_refl _) (.int .i64 0) (.int .i64 0) (.string { data := #[] }) (.bool false) (.int .i64 7))
    rw [← hwx] at HX BX
    change bodyPostM Fence.wide 6 Tryz.prog Tryz.f24 (LoadRet d w) Exit.ret _ (resL w1 w.heap.size (.int .i64 0) (.int .i64 0) (.string { data := #[] }) (.bool false) (.int .i64 7))
    rw [← hwx]
    clear hwx
    obtain ⟨x2, x3, x4, x5, x6⟩ := HX
    refine ⟨loadV 7 none, by simp [results, Tryz.results24, go_sem, x2, x3, x4, x5, x6, loadV], HU.out _ _ rfl BX.out⟩
  · have ho' : d.off = false := by cases h : d.off <;> simp_all
    rw [ho'] at HD
    have HU : Hid (∀ o e w', LoadF d.files o → e = .returned (loadV 0 o) → Below w.heap.size w w' → LoadRet d w e w') := Lib.hid (fun o e w' hl he hb => ⟨by rw [if_neg ho]; exact ⟨o, hl, he⟩, hb⟩)
    have HFl := Lib.hid (fun (W : World) (hb : Below w.heap.size w W) => files_any a F d W (good.below hd hb) hfit)
    have Hls := Lib.hid (filesL_on ho')
    have HRd := Lib.hid (fun (i : Nat) (f : Fl) (hi : (filesF d.files)[i]? = some f) (W : World) (hb : Below w.heap.size w W) => (show Calls Tryz.prog 30 #[.pointer (some a), .string (bs f.1)] W fun e w' => e = .returned (.tuple #[.string (bs (contF f)), .int .i64 0]) ∧ w' = W from by
      have hf : f ∈ d.files := (List.mem_filter.1 (List.mem_of_getElem? hi)).1
      obtain ⟨q, hq⟩ := List.mem_iff_getElem?.1 hf
      have h1 := read_good f.1 a F d W (good.short hd f hf) (good.below hd hb)
      rw [readS_some ho' (atN_rise (good.rise hd) hq) hq] at h1
      exact h1))
    have HSn := Lib.hid (fun (i : Nat) (f : Fl) (hi : (filesF d.files)[i]? = some f) (W : World) (hb : Below w.heap.size w W) => snapIn_any f.1 (contF f) W (by
      have hf : f ∈ d.files := (List.mem_filter.1 (List.mem_of_getElem? hi)).1
      have h1 := used_mem hf
      have h2 := hfit.used
      unfold sizeF at h1
      unfold contF
      rw [List.length_append]
      omega) (TabB.at ht hb))
    have Hrise := Lib.hid (good.rise hd)
    have HlenF : Hid ((filesF d.files).length ≤ 1000000000) := Lib.hid (Nat.le_trans (List.length_filter_le _ _) (Nat.le_trans hfit.len (by decide)))
    clear ho ho' hd hfit ht
    refine (callsIn_wide (n := 6)).1 ?_
    refine callsIn_of_wp_marks Tryz.func24 rfl trivial ?_ rfl
    simp only [Tryz.ntmps24, List.size_toArray, List.length_cons, List.length_nil, Nat.reduceAdd, Nat.reduceSub, Array.replicate_succ, Array.replicate_zero, List.push_toArray, List.append_toArray, List.nil_append, List.cons_append]
    gi_wp2_with (refine ⟨trivial, ?_⟩; first
      | (gi_at_call 54; rw [← Hw0.out]; refine (callsIn_wide.2 (HD.out _ B0.out)).mono ?_; rintro e w1 ⟨rfl, hb1⟩; have C1 := Lib.hid (C0.out.below hb1); have B1 := Lib.hid (B0.out.trans (below_mono' hb1 B0.out.size)); clear hb1; have hc1 := C1.out.c1)
      | (gi_at_call 42; refine (callsIn_wide.2 (HFl.out _ B1.out)).mono ?_; rintro e w2 ⟨A, n, cap, rfl, hn, hcap, hrow, hfar, hb2, hA⟩; have C2 := Lib.hid (C1.out.below hb2); have B2 := Lib.hid (B1.out.trans (below_mono' hb2 B1.out.size)); have L2 := Lib.hid (And.intro hn (And.intro hrow (And.intro hfar hA))); clear hb2 hn hcap hrow hfar hA)
      | (gi_at_call 55; refine (back_in _ _ trivial rfl _ _ _ _).mono ?_; rintro e w3 ⟨rfl, hw3⟩; have Hw3 := Lib.hid hw3; clear hw3))
    obtain ⟨hn, hrow, hfar, hA⟩ := L2.out
    rw [Hls.out] at hn hrow
    have hn' : (filesF d.files).length = n := by rw [← hn, List.length_map]
    have Hn := Lib.hid hn'
    have h23 : w2.heap.size < w3.heap.size := by rw [Hw3.out]; simp
    have hb3 : Below w2.heap.size w2 w3 := by rw [Hw3.out]; exact (Below.refl _ _).alloc (Nat.le_refl _) _
    have C3 := Lib.hid (C2.out.below hb3)
    have B3 := Lib.hid (B2.out.trans (below_mono' hb3 B2.out.size))
    have hbox : w3.cell? ⟨w2.heap.size, 0, none⟩ = some (.slice A n cap) := by rw [Hw3.out]; simp
    have hstops := back_stops Fence.wide (6 - 1) trivial rfl (by decide) w2.heap.size w3.heap.size A n cap ((filesF d.files).map (·.1)) hn (by rw [← Hn.out]; exact HlenF.out) w3 h23 (Nat.le_refl _) hbox (by
      rcases hA with h | ⟨g, rfl⟩
      · exact .inl h
      · refine .inr ⟨g, rfl, Nat.lt_trans (hfar g 0 rfl).2 h23, fun j hj => ?_⟩
        obtain ⟨x, hx⟩ : ∃ x, ((filesF d.files).map (·.1))[j]? = some x := ⟨_, List.getElem?_eq_getElem (by rw [hn]; exact hj)⟩
        obtain ⟨g', off, e, hl, hc⟩ := hrow j _ (strC_at _ j x hx)
        injection e with e
        injection e with e1 e2
        subst e1 e2
        rw [Nat.zero_add] at hc
        unfold nameAt
        rw [hx]
        exact (hb3.cell (p := ⟨g, j, none⟩) hl).trans hc)
    clear hn hrow hfar hA L2 hb3 hbox hc1 C0 C1 C2 B1 B2 HD HFl hn'
    have hpos := C3.out.lt
    refine wpIn_rangeFunc_ownG rfl (by decide) (gf := 77) (lb := #[.pointer (some ⟨w2.heap.size, 0, none⟩)]) rfl trivial (enters_of Tryz.func77 (by kernel_rfl) rfl)
      hstops belowK_t (belowK_b (Nat.le_refl _)) (Below.refl _ _) (fun _ => rfl)
      (fun pre W => (∀ x ∈ pre, ∀ f, (filesF d.files)[x.1]? = some f → snapO f.1 (contF f) = none) ∧ Below w3.heap.size w3 W)
      (fun c pre W => (c = .ret ∧ ∃ (ini : List (Fin n)) (last : Fin n) (f : Fl) (s : Sh), pre = ini ++ [last] ∧ (∀ x ∈ ini, ∀ f, (filesF d.files)[x.1]? = some f → snapO f.1 (contF f) = none) ∧ (filesF d.files)[last.1]? = some f ∧ snapO f.1 (contF f) = some s ∧
        W.cell? ⟨w.heap.size + 1, 0, none⟩ = some (.int .i64 s.i) ∧ W.cell? ⟨w.heap.size + 1, 1, none⟩ = some (.int .i64 s.t) ∧ W.cell? ⟨w.heap.size + 1, 2, none⟩ = some (.string (bs s.d)) ∧ W.cell? ⟨w.heap.size + 1 + 1, 0, none⟩ = some (.bool true) ∧ W.cell? ⟨w.heap.size + 1 + 1 + 1, 0, none⟩ = some (.int .i64 0)) ∧ Below w.heap.size w W)
      (OwnFrom.and (ownFrom_pure _ _) (ownFrom_below (Nat.le_refl _) (Nat.le_refl _)))
      (fun c => OwnFrom.and (Own.from (fun s A B row hs hg hr => by
        obtain ⟨hc, ini, last, f, q, e1, e2, e3, e4, c0, c1, c2, c3, c4⟩ := hs
        exact ⟨hc, ini, last, f, q, e1, e2, e3, e4, cell_kept c0 hg hr, cell_kept c1 hg hr, cell_kept c2 hg hr, cell_kept c3 hg hr, cell_kept c4 hg hr⟩) _) (ownFrom_below (Nat.le_refl _) B3.out.size))
      ⟨fun x hx => (by cases hx), Below.refl _ _⟩
      (fun x => { tmps := #[.pointer (some a), .pointer (some ⟨w.heap.size, 0, none⟩), .pointer (some ⟨w.heap.size + 1, 0, none⟩), .pointer (some ⟨w.heap.size + 1 + 1, 0, none⟩), .pointer (some ⟨w.heap.size + 1 + 1 + 1, 0, none⟩), undef, .string (bs (nameAt ((filesF d.files).map (·.1)) x.1)), undef, undef, undef, undef, .pointer (some a), .bool false, undef, .pointer (some a), .slice A n cap, .func (.func 77) #[] #[.pointer (some ⟨w2.heap.size, 0, none⟩)], .int .i64 (x.1 : Int), .string (bs (nameAt ((filesF d.files).map (·.1)) x.1)), undef, undef, undef, undef, undef, undef, undef, undef, undef, undef, undef, undef, undef, undef, undef, undef, undef, undef, undef], defers := [] }) ?assign ?body ?done ?stop
    case assign =>
      intro l x W K hK
      gi_wp2
      exact hK
    case body =>
      rintro l pre x W ⟨hp, hB⟩ _
      obtain ⟨f, hf⟩ : ∃ f, (filesF d.files)[x.1]? = some f := ⟨_, List.getElem?_eq_getElem (by rw [Hn.out]; exact x.2)⟩
      have hnm : nameAt ((filesF d.files).map (·.1)) x.1 = f.1 := by unfold nameAt; rw [List.getElem?_map, hf]; rfl
      rw [hnm]
      have HB := Lib.hid hB
      have BW := Lib.hid (B3.out.trans (below_mono' hB B3.out.size))
      have CW := Lib.hid (C3.out.on hB C3.out.lt)
      have HR := Lib.hid (HRd.out x.1 f hf W BW.out)
      have HS := Lib.hid (HSn.out x.1 f hf W BW.out)
      have Hf := Lib.hid hf
      have Hp := Lib.hid hp
      have hc1 := CW.out.c1
      have Hin : Hid (∀ y ∈ pre ++ [x], ∀ g, (filesF d.files)[y.1]? = some g → snapO f.1 (contF f) = none → snapO g.1 (contF g) = none) := Lib.hid (fun y hy g hg hno => by
        rcases List.mem_append.1 hy with h | h
        · exact hp y h g hg
        · rw [List.mem_singleton] at h
          subst h
          rw [hf] at hg
          injection hg with hg
          rw [← hg]; exact hno)
      clear hf hp hnm hB
      unfold SnapRet at HS
      cases hs : snapO f.1 (contF f) with
      | none =>
        have Hs := Lib.hid hs
        rw [hs] at HS
        unfold optV at HS
        clear hs
        generalize bs f.1 = nm at *
        generalize bs (contF f) = ct at *
        gi_wp2_with (refine ⟨trivial, ?_⟩; first
          | (gi_at_call 30; refine (CallsIn.inRound l (callsIn_wide.2 HR.out)).mono ?_; rintro e wq ⟨rfl, hwq⟩; replace hwq := hwq.symm; subst hwq)
          | (gi_at_call 56; refine (CallsIn.inRound l (callsIn_wide.2 HS.out)).mono ?_; rintro e wq ⟨rfl, hbq⟩; have Bq := Lib.hid hbq; clear hbq))
        have hbl : Below W.heap.size W (wq.alloc (.cells #[.int .i64 0, .int .i64 0, .string { data := #[] }] 33)) := Bq.out.alloc Bq.out.size _
        exact ⟨KeepsFrom.of_below hbl, below_mono' hbl HB.out.size, fun y hy g hg => Hin.out y hy g hg Hs.out, HB.out.trans (below_mono' hbl HB.out.size)⟩
      | some q =>
        have Hs := Lib.hid hs
        rw [hs] at HS
        unfold optV snapV at HS
        clear hs
        generalize bs f.1 = nm at *
        generalize bs (contF f) = ct at *
        gi_wp2_with (refine ⟨trivial, ?_⟩; first
          | (gi_at_call 30; refine (CallsIn.inRound l (callsIn_wide.2 HR.out)).mono ?_; rintro e wq ⟨rfl, hwq⟩; replace hwq := hwq.symm; subst hwq)
          | (gi_at_call 56; refine (CallsIn.inRound l (callsIn_wide.2 HS.out)).mono ?_; rintro e wq ⟨rfl, hbq⟩; have Cq : Hid (∀ o, LdC (wq.alloc o) w.heap.size a) := Lib.hid (fun o => (CW.out.below hbq).below ((Below.refl _ _).alloc (Nat.le_refl _) o)); have Bq := Lib.hid hbq; clear hbq; have hc2 := fun o => (Cq.out o).c2; have hc3 := fun o => (Cq.out o).c3; have hc4 := fun o => (Cq.out o).c4; have hc5 := fun o => (Cq.out o).c5; have hc6 := fun o => (Cq.out o).c6; have hf2 := fun o => (Cq.out o).f2; have hf3 := fun o => (Cq.out o).f3; have hf4 := fun o => (Cq.out o).f4; have hf5 := fun o => (Cq.out o).f5; have hf6 := fun o => (Cq.out o).f6))
        have hbl : Below W.heap.size W (wq.alloc (.cells #[.int .i64 q.i, .int .i64 q.t, .string (bs q.d)] 33)) := Bq.out.alloc Bq.out.size _
        change ownPostG w3.heap.size (Below w3.heap.size) _ _ (pre ++ [x]) W Exit.ret _ (resL (wq.alloc (.cells #[.int .i64 q.i, .int .i64 q.t, .string (bs q.d)] 33)) w.heap.size (.int .i64 q.i) (.int .i64 q.t) (.string (bs q.d)) (.bool true) (.int .i64 0))
        obtain ⟨x2, x3, x4, x5, x6⟩ := resL_cells (Cq.out (.cells #[.int .i64 q.i, .int .i64 q.t, .string (bs q.d)] 33)) (.int .i64 q.i) (.int .i64 q.t) (.string (bs q.d)) (.bool true) (.int .i64 0)
        exact ⟨(KeepsFrom.of_below hbl).trans ((resL_keeps _ _ _ _ _).from _), ⟨rfl, pre, x, f, q, rfl, Hp.out, Hf.out, Hs.out, x2, x3, x4, x5, x6⟩, resL_below (BW.out.trans (below_mono' hbl BW.out.size)) (Nat.le_refl _) _ _ _ _ _⟩
    case done =>
      rintro D ys W hD rfl ⟨hno, hB⟩ hK
      have CW := C3.out.on hB C3.out.lt
      have BW := Lib.hid (B3.out.trans (below_mono' hB B3.out.size))
      have Hno : Hid (LoadF d.files none) := Lib.hid (load_none (fun j g hg => by
        have hj : j < n := by rw [← Hn.out]; exact (List.getElem?_eq_some_iff.1 hg).1
        exact hno ⟨j, hj⟩ (backF_mem _) g hg))
      have hc2 := CW.c2
      have hc3 := CW.c3
      have hc4 := CW.c4
      have hc5 := CW.c5
      have hc6 := CW.c6
      have hf2 := CW.f2
      have hf3 := CW.f3
      have hf4 := CW.f4
      have hf5 := CW.f5
      have hf6 := CW.f6
      clear hno hB
      obtain ⟨wx, hwx⟩ : ∃ wx, wx = resL W w.heap.size (.int .i64 0) (.int .i64 0) (.string { data := #[] }) (.bool false) (.int .i64 0) := ⟨_, rfl⟩
      have HX := resL_cells CW (.int .i64 0) (.int .i64 0) (.string { data := #[] }) (.bool false) (.int .i64 0)
      have BX := Lib.hid (resL_below BW.out (Nat.le_refl _) (.int .i64 0) (.int .i64 0) (.string { data := #[] }) (.bool false) (.int .i64 0))
      have KX := (resL_keeps (w := W) (b := w.heap.size) (.int .i64 0) (.int .i64 0) (.string { data := #[] }) (.bool false) (.int .i64 0)).same D _ hK rfl
      rw [← hwx] at HX BX KX
      gi_wp2
      change bodyPostM Fence.wide 6 Tryz.prog Tryz.f24 (LoadRet d w) Exit.ret _ (resL W w.heap.size (.int .i64 0) (.int .i64 0) (.string { data := #[] }) (.bool false) (.int .i64 0))
      rw [← hwx]
      clear hwx
      obtain ⟨x2, x3, x4, x5, x6⟩ := HX
      have k : ∀ {p : Addr} {v : Value}, wx.cell? p = some v → (wx.putObj D (.deferred none)).cell? p = some v := fun h => cell_kept h (grownBy_putObj' _ D (.deferred none)) (fun r e => by cases e; exact ⟨_, KX, rfl⟩)
      have y2 := k x2
      have y3 := k x3
      have y4 := k x4
      have y5 := k x5
      have y6 := k x6
      refine ⟨by simp, .inl ⟨_, _, rfl, run_takeDeferred KX, ?_⟩⟩
      refine ⟨loadV 0 none, by simp [results, Tryz.results24, go_sem, y2, y3, y4, y5, y6, loadV], HU.out none _ _ Hno.out rfl (BX.out.trans (belowK_b (w := w) (Nat.le_refl _) _ D _ _ (by have := B3.out.size; omega) KX rfl rfl))⟩
    case stop =>
      rintro D c pre W hD ⟨k, hk, rfl⟩ ⟨⟨rfl, ini, last, f, q, e1, e2, hf, hs, x2, x3, x4, x5, x6⟩, hB⟩ hK
      have BW := Lib.hid hB
      have Hl : Hid (LoadF d.files (some q)) := Lib.hid (load_back Hrise.out hf hs (fun j g hij hg => by
        have hj : j < n := by rw [← Hn.out]; exact (List.getElem?_eq_some_iff.1 hg).1
        obtain ⟨k', rfl⟩ : ∃ k', k = k' + 1 := by
          cases k with
          | zero => simp at e1
          | succ k' => exact ⟨k', rfl⟩
        rw [backF_take (by omega)] at e1
        obtain ⟨rfl, e5⟩ := List.append_inj' e1 rfl
        injection e5 with e5 _
        have e6 : n - 1 - k' = last.1 := congrArg Fin.val e5
        exact e2 ⟨j, hj⟩ (backF_mem_take (by omega) (by show n - k' ≤ j; omega)) g hg))
      clear hB e1 e2 hf hs
      gi_wp2
      have k : ∀ {p : Addr} {v : Value}, W.cell? p = some v → (W.putObj D (.deferred none)).cell? p = some v := fun h => cell_kept h (grownBy_putObj' _ D (.deferred none)) (fun r e => by cases e; exact ⟨_, hK, rfl⟩)
      have y2 := k x2
      have y3 := k x3
      have y4 := k x4
      have y5 := k x5
      have y6 := k x6
      refine ⟨by simp, .inl ⟨_, _, rfl, run_takeDeferred hK, ?_⟩⟩
      refine ⟨loadV 0 (some q), by simp [results, Tryz.results24, go_sem, y2, y3, y4, y5, y6, loadV, snapV], HU.out (some q) _ _ Hl.out rfl (BW.out.trans (belowK_b (w := w) (Nat.le_refl _) _ D _ _ (by have := B3.out.size; omega) hK rfl rfl))⟩
end Go.Proofs.YtmgbmphheagdmaaGreatDoor
