/- Texts of one claim, joined: LO LP. -/
import Derived.Test.YtdneobnnmmlebaaGreatDoorLN
/-
  The contract of wal.Open.
-/
namespace Go.Proofs.YtdneobnnmmlebaaGreatDoor
open Go.RowKit

/-- An open log in memory. -/
def XW (w : World) (x : Addr) (FX : Nat → Prop) (a : Addr) (L : Lg) : Prop :=
  ∃ g, x = ⟨g, 0, none⟩ ∧ FX = (fun k => k = g) ∧ WalM w g a L.last (if L.last = 0 then 0 else L.last + 1 - L.first) L.size ∧ (L.last = 0 ∨ (1 ≤ L.first ∧ L.first ≤ L.last))
theorem slice_zero (A : Option Addr) (n cap : Nat) (W : World) : (Instr.slice 61 (.slice A n cap) (some (.int .i64 ((0 : Nat) : Int))) none none).run Tryz.prog W = .ok (.slice A n cap) W := by
  rw [run_slice_l W 61 _ n cap elem61 .i64 ((0 : Nat) : Int) (by omega) (by omega), size61, Result.andThen_ok, Int.toNat_natCast]
  unfold sliced
  cases A with
  | none => by_cases h : cap = 0 <;> simp [h]
  | some a => by_cases h : cap = 0 <;> simp [h, Addr.add]
theorem tot_used {l : List Fl} : (((l.filterMap segF).map fun p => p.2.length).sum) ≤ usedL l := by
  induction l with
  | nil => exact Nat.zero_le _
  | cons f l ih =>
    rw [List.filterMap_cons]
    simp only [usedL]
    cases hf : segF f with
    | none => simp only; omega
    | some p =>
      simp only [List.map_cons, List.sum_cons]
      have : p.2.length = sizeF f := by
        unfold segF at hf
        split at hf
        · cases hf
        · injection hf with hf
          rw [← hf]
          unfold contF sizeF
          rw [List.length_append]
      omega
theorem ok_recs {g : Sg} (h : SgOk g) : g.recs.length * 13 ≤ g.c.length := by
  have h1 := frames_ge g.recs
  rcases h with ⟨_, k, b, t, _, _, hc, hs, _⟩ | ⟨_, _, t, hs, _⟩
  · rw [hc, List.length_append, hs.eq, List.length_append]; omega
  · rw [hs.eq, List.length_append]; omega
theorem tot_recs {L : List Sg} (h : ∀ g ∈ L, SgOk g) : totR L * 13 ≤ (L.map fun g => g.c.length).sum := by
  induction L with
  | nil => exact Nat.zero_le _
  | cons g L ih =>
    have h1 := ok_recs (h g (by simp))
    have h2 := ih (fun x hx => h x (by simp [hx]))
    unfold totR at *
    rw [List.map_cons, List.sum_cons, List.map_cons, List.sum_cons]
    omega
theorem segs_tot {l : List Fl} {L : List Sg} (h : SegsOf l L) : totR L * 13 ≤ usedL l := by
  have h1 := tot_recs h.ok
  have h2 : (L.map fun g => g.c.length) = ((l.filterMap segF).map fun p => p.2.length) := by rw [← h.eq, List.map_map]; rfl
  rw [h2] at h1
  exact Nat.le_trans h1 tot_used
theorem totR_drop (L : List Sg) (r : Nat) : totR (L.drop r) ≤ totR L := by
  conv => rhs; rw [← List.take_append_drop r L]
  unfold totR
  rw [List.map_append, List.sum_append]
  omega
theorem used_cutM (j n k : Nat) (l : List Fl) : usedL (cutM j n k l) ≤ usedL l := by
  unfold cutM
  induction l with
  | nil => exact Nat.le_refl _
  | cons f l ih =>
    rw [List.map_cons]
    simp only [usedL]
    have : sizeF (if 1 ≤ j ∧ f.1 = fileL n then cutF k f else f) ≤ sizeF f := by
      split
      · unfold sizeF cutF
        simp only [List.length_take, List.length_drop, List.length_append]
        omega
      · exact Nat.le_refl _
    omega
theorem bef_le {L : List Sg} {r : Nat} (h : BefOf L r) : r ≤ L.length := by
  rcases h with ⟨g, hg, _⟩ | ⟨_, h⟩
  · exact Nat.le_of_lt (List.getElem?_eq_some_iff.1 hg).1
  · exact Nat.le_of_eq h

set_option maxRecDepth 100000 in
set_option maxHeartbeats 8000000 in
theorem open_any (G : GoodD) (a : Addr) (F : Nat → Prop) (s : St) (w : World) (hd : G.D w a F s) (hfit : Fit s) (hoff : s.off = false) (hfu : s.fuse = -1) (ht : TabF F w) :
    Calls Tryz.prog 10 #[.pointer (some a)] w (OpenRet G XW a F s w) := by
  have HD := Lib.hid (G.down a F s w hd)
  rw [hoff] at HD
  have Hd := Lib.hid hd
  have Hfit := Lib.hid hfit
  have Hst := Lib.hid (And.intro hoff hfu)
  have Ht := Lib.hid ht
  have Hrise := Lib.hid (G.rise hd)
  clear hd hfit hoff hfu ht
  go_enter Tryz.func10, Tryz.ntmps10
  go_wp2_with fail
  refine HD.out.mono ?_
  rintro e w1 ⟨rfl, hb1⟩
  have B1 := Lib.hid hb1
  have HS := Lib.hid (segments_any G a F s w1 (G.below Hd.out hb1) Hfit.out Hst.out.1)
  clear hb1 HD
  go_wp2_with fail
  refine HS.out.mono ?_
  rintro e w2 ⟨L, A, n, cap, F2, hsg, rfl, hlen, hcap, hn6, hd2, hg2, ho2, hrow, hfar, hsgs⟩
  have Hsg := Lib.hid hsg
  have Hlen := Lib.hid hlen
  have Hcap := Lib.hid hcap
  have Hd2 := Lib.hid hd2
  have Hg2 := Lib.hid hg2
  have Ho2 := Lib.hid ho2
  have Hrow := Lib.hid hrow
  have Hfar := Lib.hid hfar
  have Hsgs := Lib.hid hsgs
  have HB := Lib.hid (beforeLog_any L A n cap w2 hlen hrow (by omega))
  clear hsg hlen hcap hd2 hg2 ho2 hrow hfar hsgs HS
  go_wp2_with fail
  refine HB.out.mono ?_
  rintro e w2' ⟨r, hbef, rfl, hw2⟩
  subst hw2
  have Hbef := Lib.hid hbef
  have hrn : r ≤ n := by rw [← Hlen.out]; exact bef_le hbef
  have T2 : Hid (TabF F2 w2') := Lib.hid ((Ht.out.below B1.out).only Ho2.out Hg2.out)
  have Hasc := Lib.hid (segs_rise Hrise.out Hsg.out)
  have Hdiff : Hid (L.Pairwise fun p q => p.n ≠ q.n) := Lib.hid (Hasc.out.imp (fun h => by omega))
  have Hfile : Hid (∀ g ∈ L, g.n ≤ mostS ∧ g.good ≤ g.c.length ∧ g.c.length ≤ 1000000000 ∧ ∃ f ∈ s.files, f.1 = fileL g.n ∧ contF f = g.c) := Lib.hid (fun g hg => by
    obtain ⟨f, hf, hn, hc, _, hm⟩ := segs_mem Hsg.out hg
    refine ⟨hm, good_le (Hsg.out.ok g hg), ?_, f, hf, hn, hc⟩
    have h1 := mem_used hf
    have h2 := Hfit.out.used
    unfold sizeF at h1
    rw [← hc]
    unfold contF
    rw [List.length_append]
    omega)
  have HR := Lib.hid (removeAll_any G (L.take r) A r cap a F2 s w2' Hd2.out Hfit.out Hst.out.1 Hst.out.2 T2.out (by rw [List.length_take, Hlen.out]; omega) (by omega) (row_takeS Hrow.out r) (fun g off e _ => (Hfar.out g off e).2.2) (Hdiff.out.sublist (List.take_sublist _ _)) (fun g hg => by
    obtain ⟨h1, _, _, f, hf, hn, _⟩ := Hfile.out g (List.mem_of_mem_take hg)
    exact ⟨h1, f, hf, hn⟩))
  have hsl1 := slice_upto A n cap r (r : Int) rfl (by have := Hcap.out; omega)
  have hslx : ∃ A', (∀ W, (Instr.slice 61 (.slice A n cap) (some (.int .i64 (r : Int))) none none).run Tryz.prog W = .ok (.slice A' (n - r) (cap - r)) W) ∧ (∀ W, RowAt W A (sgC L) → RowAt W A' (sgC (L.drop r))) ∧ (∀ b off, A' = some (⟨b, off, none⟩ : Addr) → ∃ off', A = some (⟨b, off', none⟩ : Addr)) := by
    by_cases h0 : n = 0
    · subst h0
      obtain rfl : r = 0 := by omega
      exact ⟨A, fun W => slice_zero A 0 cap W, fun W h => h, fun b off e => ⟨off, e⟩⟩
    · obtain ⟨g, hg⟩ : ∃ g, L[0]? = some g := ⟨_, List.getElem?_eq_getElem (by rw [Hlen.out]; omega)⟩
      obtain ⟨b, off, rfl, _⟩ := row_sg Hrow.out hg
      refine ⟨partA b off r cap, slice_from b off n cap r (r : Int) rfl hrn, fun W h => by rw [partA_eq]; exact row_part h r cap (by rw [Hlen.out]; exact Hcap.out), fun b' off' e => ?_⟩
      rw [partA_eq] at e
      split at e <;> injection e with e <;> injection e with e1 _ <;> exact ⟨off, by rw [e1]⟩
  obtain ⟨A', hsl2, hrowA, hfarA⟩ := hslx
  have Hra := Lib.hid hrowA
  have Hfa := Lib.hid hfarA
  clear hbef hrowA hfarA HB
  generalize Value.slice A n cap = V at hsl1 hsl2 ⊢
  go_wp2_with fail
  refine HR.out.mono ?_
  rintro e w3 ⟨rfl, F3, hd3, ho3, hg3⟩
  obtain ⟨w4, hw4⟩ : ∃ w4, w4 = w3.alloc (.cells #[.pointer (some a), .int .i64 0, .int .i64 0, .int .i64 0] 67) := ⟨_, rfl⟩
  obtain ⟨x, hx⟩ : ∃ x, x = w3.heap.size := ⟨_, rfl⟩
  have B4 : Hid (Below w3.heap.size w3 w4) := Lib.hid (by rw [hw4]; exact (Below.refl _ _).alloc (Nat.le_refl _) _)
  have W4 : Hid (WalM w4 x a 0 0 0) := Lib.hid (by rw [hw4, hx]; exact Holds.new w3 67 _)
  have Hxl4 : Hid (x < w4.heap.size) := Lib.hid (Holds.lt W4.out)
  have T3 := Lib.hid (T2.out.only ho3 hg3)
  have Hx := Lib.hid hx
  have Hd4 := Lib.hid (G.below hd3 B4.out)
  have Nx : Hid (¬ F3 x) := Lib.hid (fun h => by have := G.foot hd3 x h; omega)
  have Ho3 := Lib.hid ho3
  have Hg3 := Lib.hid hg3
  have T4 : Hid (TabF (fun k => F3 k ∨ k = x) w4) := Lib.hid (T3.out.only (Only.of_below B4.out (fun i hi => .inr hi)) (fun k hk => hk.elim .inl (fun h => .inr (by omega))))
  have Nb : Hid (∀ b, b < w2'.heap.size → ¬ F2 b → ¬ F3 b ∧ b ≠ x) := Lib.hid (fun b hb hf => ⟨fun h => (hg3 b h).elim hf (fun h => by omega), fun e => by have := ho3.size; omega⟩)
  have Harg : Hid (TkArg w4 x F3 (rmS ((L.take r).map (·.n)) s) (L.drop r) A' (n - r) (cap - r)) := Lib.hid (by
    have hrow3 : RowAt w3 A (sgC L) := row_only Hrow.out ho3 (fun g off e _ => (Hfar.out g off e).2.2)
    refine ⟨by rw [List.length_drop, Hlen.out], by have := Hcap.out; omega, by omega, Hra.out w4 (hrow3.below B4.out (Nat.le_refl _)), fun b off e => ?_, fun g hg => ?_, ?_, Hdiff.out.sublist (List.drop_sublist _ _), fun g hg => ?_⟩
    · obtain ⟨off', e'⟩ := Hfa.out b off e
      obtain ⟨_, h2, h3⟩ := Hfar.out b off' e'
      exact Nb.out b h2 h3
    · have hs := Hsgs.out g (List.mem_of_mem_drop hg)
      refine ⟨(row_only hs.row ho3 (fun b off e h0 => (hs.far b off e (by rw [rcC_length] at h0; omega)).2.2.1)).below B4.out (Nat.le_refl _), fun b off e h0 => ?_⟩
      obtain ⟨_, h2, h3, _⟩ := hs.far b off e h0
      exact (Nb.out b h2 h3).2
    · have h1 := segs_tot Hsg.out
      have h2 := Hfit.out.used
      have h3 := totR_drop L r
      omega
    · obtain ⟨h1, h2, h3, f, hf, hn, hc⟩ := Hfile.out g (List.mem_of_mem_drop hg)
      refine ⟨h1, h2, h3, f, mem_rmF.2 ⟨hf, fun m hm e => ?_⟩, hn, hc⟩
      obtain ⟨y, hy, rfl⟩ := List.mem_map.1 hm
      have hym := (Hfile.out y (List.mem_of_mem_take hy)).1
      rw [hn] at e
      have e := file_inj h1 hym e
      obtain ⟨p, hp⟩ := List.mem_iff_getElem?.1 hy
      obtain ⟨q, hq⟩ := List.mem_iff_getElem?.1 hg
      rw [List.getElem?_take] at hp
      rw [List.getElem?_drop] at hq
      split at hp
      · have := (rise_idx Hasc.out hp hq).1.1 (by omega)
        omega
      · cases hp)
  have HT := Lib.hid (take_any G x a F3 (rmS ((L.take r).map (·.n)) s) w4 (L.drop r) A' (n - r) (cap - r) Hd4.out (fit_rm Hfit.out _) Hst.out.1 Hst.out.2 T4.out Nx.out W4.out Harg.out)
  have Hw4 := Lib.hid hw4
  clear hd3 ho3 hg3 hw4 HR
  go_wp2_with fail
  rw [← Hw4.out, ← Hx.out]
  refine HT.out.mono ?_
  rintro e w5 ⟨j, A5, n5, c5, F5, htk, rfl, hl5, hn5, hr5, hf5, hw5, hd5, ho5, hg5⟩
  have Hend : Hid (OpenRet G XW a F s w (.returned (.tuple #[.pointer (some ⟨x, 0, none⟩), .slice A5 n5 c5, .int .i64 0])) w5) := Lib.hid (by
    obtain ⟨P, h1, h2, h3, h4⟩ := open_tells Hrise.out Hsg.out Hbef.out htk
    have hk3 : ∀ k, F3 k → F k ∨ w.heap.size ≤ k := fun k hk => (Hg3.out k hk).elim (fun h => (Hg2.out k h).imp id (fun h => Nat.le_trans B1.out.size h)) (fun h => .inr (Nat.le_trans (Nat.le_trans B1.out.size Ho2.out.size) h))
    have o3 : Only F w w3 := (((Only.refl F w).below_new B1.out).trans Ho2.out).then Ho3.out (fun k hk => (Hg2.out k hk).imp id (fun h => Nat.le_trans B1.out.size h))
    have hwx : w.heap.size ≤ x := by rw [Hx.out]; exact o3.size
    have hj : lastN (L.drop r) j = 0 ↔ j = 0 := by
      constructor
      · intro h; rcases Nat.eq_zero_or_pos j with h' | h'
        · exact h'
        · have := h4 h'; omega
      · rintro rfl; unfold lastN; split <;> simp
    refine ⟨⟨x, 0, none⟩, fun k => k = x, A5, n5, c5, F5, tkS (L.drop r) j (rmS ((L.take r).map (·.n)) s), ⟨P, lastN (L.drop r) j, lastG (L.drop r) j⟩, recsJ (L.drop r) j, rfl, hd5, ⟨x, rfl, rfl, ?_, ?_⟩, ?_, hl5, hn5, hr5, ?_, ?_, ?_, ?_⟩
    · show WalM w5 x a (lastN (L.drop r) j) (if lastN (L.drop r) j = 0 then 0 else lastN (L.drop r) j + 1 - P) (lastG (L.drop r) j)
      have : (if lastN (L.drop r) j = 0 then 0 else lastN (L.drop r) j + 1 - P) = j := by
        split
        · rename_i h; exact (hj.1 h).symm
        · rename_i h
          have h5 := h4 (by rcases Nat.eq_zero_or_pos j with h' | h'; · exact absurd (hj.2 h') h
                            · exact h')
          omega
      rw [this]; exact hw5
    · show lastN (L.drop r) j = 0 ∨ _
      rcases Nat.eq_zero_or_pos j with h' | h'
      · exact .inl (hj.2 h')
      · right
        have h5 := h4 h'
        show 1 ≤ P ∧ P ≤ lastN (L.drop r) j
        omega
    · refine ⟨h1, h2, rfl, rfl, Hst.out.1, ?_, ?_⟩
      · exact Nat.le_trans (usedL_filter _ _) (Nat.le_trans (used_cutM _ _ _ _) (usedL_filter _ _))
      · show (rmF _ (cutM _ _ _ (rmF _ s.files))).length ≤ s.files.length
        refine Nat.le_trans (List.length_filter_le _ _) ?_
        unfold cutM
        rw [List.length_map]
        exact List.length_filter_le _ _
    · exact (o3.below_new B4.out).then ho5 (fun k hk => hk.elim (hk3 k) (fun e => .inr (by rw [e]; exact hwx)))
    · exact fun k hk => (hg5 k hk).elim (hk3 k) (fun h => .inr (by have := Hxl4.out; omega))
    · rintro k rfl
      exact ⟨hwx, fun h => (hg5 _ h).elim Nx.out (fun h => by have := Hxl4.out; omega)⟩
    · intro g off e _
      obtain ⟨p1, p2⟩ := hf5 g off e
      have := Hxl4.out
      exact ⟨by omega, p2, fun e => by omega⟩)
  clear htk hl5 hn5 hr5 hf5 hw5 hd5 ho5 hg5 HT
  go_wp2
  exact bodyPost_ret (v := .tuple #[.pointer (some ⟨x, 0, none⟩), .slice A5 n5 c5, .int .i64 0]) (by simp [results, Tryz.results10, go_sem]) rfl Hend.out
end Go.Proofs.YtdneobnnmmlebaaGreatDoor

/-
  The contracts of closed, checked, Segments, and of all of them where there is no log.
-/
namespace Go.Proofs.YtdneobnnmmlebaaGreatDoor
open Go.RowKit

theorem closed_nil (w : World) : Calls Tryz.prog 30 #[.pointer none] w fun e w' => e = .returned (.bool true) ∧ w' = w := by
  go_enter Tryz.func30, Tryz.ntmps30
  go_wp2
  go_ret
  exact ⟨rfl, rfl⟩
theorem closed_any (x : Nat) (a : Addr) (la ct sz : Nat) (w : World) (h : WalM w x a la ct sz) : Calls Tryz.prog 30 #[.pointer (some ⟨x, 0, none⟩)] w fun e w' => e = .returned (.bool false) ∧ w' = w := by
  obtain ⟨e0, _⟩ := h.cells
  clear h
  go_enter Tryz.func30, Tryz.ntmps30
  go_wp2
  go_ret
  exact ⟨rfl, rfl⟩
/-- A log that is closed. -/
def set4 (w : World) (x : Nat) : World := (((w.setCell ⟨x, 0, none⟩ (.pointer none)).setCell ⟨x, 1, none⟩ (.int .i64 0)).setCell ⟨x, 2, none⟩ (.int .i64 0)).setCell ⟨x, 3, none⟩ (.int .i64 0)
theorem set4_only (w : World) (x : Nat) : Only (fun k => k = x) w (set4 w x) :=
  ((((Only.refl (fun k => k = x) w).setCell ⟨x, 0, none⟩ _ (.inl rfl)).setCell ⟨x, 1, none⟩ _ (.inl rfl)).setCell ⟨x, 2, none⟩ _ (.inl rfl)).setCell ⟨x, 3, none⟩ _ (.inl rfl)
/-- What checked answers. -/
def ChRet (x : Nat) (v : Int) (w : World) (e : Ending) (w' : World) : Prop := e = .returned (.int .i64 v) ∧ Only (fun k => k = x) w w' ∧ (v = 0 → w' = w)
set_option maxRecDepth 100000 in
theorem checked_any (x : Nat) (a : Addr) (la ct sz : Nat) (v : Int) (w : World) (h : WalM w x a la ct sz) : Calls Tryz.prog 35 #[.pointer (some ⟨x, 0, none⟩), .int .i64 v] w (ChRet x v w) := by
  obtain ⟨e0, e1, e2, e3, f1, f2, f3⟩ := h.cells
  have f0 : w.frozen? ⟨x, 0, none⟩ = false := Holds.frozen h 0
  have Ho := Lib.hid (set4_only w x)
  clear h
  by_cases h0 : v = 0
  · subst h0
    go_enter Tryz.func35, Tryz.ntmps35
    go_wp2
    go_ret
    exact ⟨rfl, Only.refl _ _, fun _ => rfl⟩
  · by_cases h6 : v = 6
    · subst h6
      go_enter Tryz.func35, Tryz.ntmps35
      go_wp2
      go_ret
      exact ⟨rfl, Only.refl _ _, fun h => by cases h⟩
    · have h1 : (v != 0) = true := by rw [bne_iff_ne]; exact h0
      have h2 : (v != 6) = true := by rw [bne_iff_ne]; exact h6
      have Hv : Hid (v = 0 → False) := Lib.hid h0
      clear h0 h6
      go_enter Tryz.func35, Tryz.ntmps35
      go_wp2
      go_ret
      exact ⟨rfl, Ho.out, fun h => (Hv.out h).elim⟩
theorem segs_nil (w : World) : Calls Tryz.prog 23 #[.pointer none] w (NRet (.int .i64 0) w) := by
  go_enter Tryz.func23, Tryz.ntmps23
  go_wp2
  go_ret
  exact ⟨rfl, Below.refl _ _⟩
theorem segs_any (x : Nat) (a : Addr) (la ct sz : Nat) (w : World) (h : WalM w x a la ct sz) : Calls Tryz.prog 23 #[.pointer (some ⟨x, 0, none⟩)] w fun e w' => e = .returned (.int .i64 (ct : Nat)) ∧ w' = w := by
  obtain ⟨_, _, e2, _⟩ := h.cells
  clear h
  go_enter Tryz.func23, Tryz.ntmps23
  go_wp2
  go_ret
  exact ⟨rfl, rfl⟩
set_option maxRecDepth 100000 in
theorem start_nil (A : Option Addr) (n cap : Nat) (w : World) : Calls Tryz.prog 11 #[.pointer none, .slice A n cap] w (NRet (.int .i64 7) w) := by
  go_enter Tryz.func11, Tryz.ntmps11
  go_wp2_with (go_at_call 30; refine (closed_nil _).mono ?_; rintro e w' ⟨rfl, rfl⟩)
  go_ret
  exact ⟨rfl, Below.refl _ _⟩
set_option maxRecDepth 100000 in
theorem append_nil (A : Option Addr) (n cap : Nat) (w : World) : Calls Tryz.prog 13 #[.pointer none, .slice A n cap] w (NRet (.int .i64 7) w) := by
  go_enter Tryz.func13, Tryz.ntmps13
  go_wp2_with (go_at_call 30; refine (closed_nil _).mono ?_; rintro e w' ⟨rfl, rfl⟩)
  go_ret
  exact ⟨rfl, Below.refl _ _⟩
set_option maxRecDepth 100000 in
theorem sync_nil (w : World) : Calls Tryz.prog 14 #[.pointer none] w (NRet (.int .i64 7) w) := by
  go_enter Tryz.func14, Tryz.ntmps14
  go_wp2_with (go_at_call 30; refine (closed_nil _).mono ?_; rintro e w' ⟨rfl, rfl⟩)
  go_ret
  exact ⟨rfl, Below.refl _ _⟩
theorem down_nil (w : World) : Calls Tryz.prog 25 #[.pointer none] w fun e w' => e = .returned (.bool true) ∧ w' = w := by
  go_enter Tryz.func25, Tryz.ntmps25
  go_wp2
  go_ret
  exact ⟨rfl, rfl⟩
set_option maxRecDepth 100000 in
theorem open_nil (w : World) : Calls Tryz.prog 10 #[.pointer none] w fun e w' => (∃ A cap, e = .returned (.tuple #[.pointer none, .slice A 0 cap, .int .i64 7])) ∧ Below w.heap.size w w' := by
  go_enter Tryz.func10, Tryz.ntmps10
  go_wp2_with (go_at_call 25; refine (down_nil _).mono ?_; rintro e w' ⟨rfl, rfl⟩)
  exact bodyPost_ret (v := .tuple #[.pointer none, .slice none 0 0, .int .i64 7]) (by simp [results, Tryz.results10, go_sem]) rfl ⟨⟨none, 0, rfl⟩, Below.refl _ _⟩
theorem nonw : NoneW := ⟨open_nil, start_nil, append_nil, sync_nil, segs_nil⟩
end Go.Proofs.YtdneobnnmmlebaaGreatDoor
