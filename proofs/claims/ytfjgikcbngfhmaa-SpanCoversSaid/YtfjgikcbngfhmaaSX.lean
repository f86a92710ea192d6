/-
  SpanPoints walked, by what is asked of the program's own functions.
-/
import Derived.Test.YtfjgikcbngfhmaaSW
namespace Go.Proofs.Ytfjgikcbngfhmaa
open Go.RowKit
set_option linter.unusedSimpArgs false
set_option linter.unusedVariables false

theorem own_one2 (W : World) (o : Obj) (cs : Array Value) (hs : cs.size = 2) : ((W.alloc o).alloc (.cells cs 23)).ownsRow W.heap.size 23 2 (.slice (some ⟨W.heap.size + 1, 0, none⟩) 1 1) 1 cs.toList := by
  have := own_one (W.alloc o) cs hs
  rw [show (W.alloc o).heap.size = W.heap.size + 1 by simp] at this
  exact own_base this (by omega)

set_option maxRecDepth 100000 in
set_option maxHeartbeats 8000000 in
theorem points_law (G : Good) (l : List Sp) (A : Option Addr) (n cap : Nat) (s : Sp) (k : List UInt8) (w : World) (hn : l.length = n) (hr : RowAt w A (spC l)) (hn32 : (1 + n) * 32 ≤ 140737488355328) : Calls Try.prog 9 #[.slice A n cap, spV s, .string (bs k)] w (Laws w) := by
  obtain ⟨i0, hi0, hz0, hz1, hz2⟩ := info_parts infoS
  unfold spV at *
  have Hn := Lib.hid hn
  have Hn1 : Hid ((s :: l).length = 1 + n) := Lib.hid (by rw [List.length_cons, hn]; omega)
  have Hsl : Hid ((spC l).length = n * 2) := Lib.hid (by rw [spC_length, hn])
  have HG := Lib.hid G
  have hmf : ∀ (fn : Fn) (first cap : Array Value) (w : World), (Instr.makeFunc fn first cap).run Try.prog w = .ok (.func fn first cap) w := fun _ _ _ _ => rfl
  obtain ⟨wb, hwb⟩ : ∃ wb, wb = (w.alloc (.cells #[.string (bs s.1), .string (bs s.2)] 23)).alloc (.cells #[.string (bs k)] 9) := ⟨_, rfl⟩
  have Hbx : Hid (RowAt wb (some ⟨w.heap.size, 0, none⟩) [.string (bs s.1), .string (bs s.2)] ∧ RowAt wb (some ⟨w.heap.size + 1, 0, none⟩) [.string (bs k)] ∧ Below w.heap.size w wb) := Lib.hid (by
    rw [hwb]
    exact ⟨row_kept (row_new _ _ _) (Lib.alloc_old _ _ _ (by simp)), row_new2 _ _ _ _, ((Below.refl _ _).alloc (Nat.le_refl _) _).alloc (by simp) _⟩)
  have Hr := Lib.hid hr
  clear hn hr G
  go_enter Try.func9, Try.ntmps9
  go_wp2_with fail
  rw [← hwb]
  refine (awake_any HG.out wb).mono ?_
  rintro e w1 ⟨rfl, hb1⟩
  have Hb1 : Hid (Below w.heap.size w w1) := Lib.hid (Hbx.out.2.2.trans (hb1.mono Hbx.out.2.2.size))
  have Hr1 := Lib.hid (Hr.out.below Hb1.out (Nat.le_refl _))
  have hx := row_two (Hbx.out.1.below hb1 (Nat.le_refl _))
  have hy : w.heap.size + 1 < w1.heap.size ∧ w1.cell? ⟨w.heap.size + 1, 0, none⟩ = some (.string (bs k)) := by
    obtain ⟨b1, off, e, hl, h0⟩ := Hbx.out.2.1.below hb1 (Nat.le_refl _) 0 _ rfl
    injection e with e; injection e with e1 e2; subst e1; subst e2
    exact ⟨hl, h0⟩
  have Hlt0 := Lib.hid (And.intro hx.1 hy.1)
  have Hc01 := Lib.hid (And.intro hx.2 hy.2)
  have HB1 : Hid (w.heap.size ≤ w1.heap.size) := Lib.hid (Nat.le_of_lt hx.1)
  clear hb1 hwb Hbx hx hy
  generalize hB : w.heap.size = B at *
  by_cases hsm : smallL (s :: l) [k]
  · have hn40 : n ≤ 40 := by have := hsm.1; rw [Hn1.out] at this; omega
    have Hsm := Lib.hid hsm
    clear hsm
    go_wp2_with fail
    go_cut [17] from 11 to 17 (fun ev wx => ev = .bool false ∧ Below w1.heap.size w1 wx)
    case first =>
      go_region_held3 (fun w' => (w'.cell? ⟨B, 0, none⟩ = some (.string (bs s.1)) ∧ w'.cell? ⟨B, 0 + 1, none⟩ = some (.string (bs s.2))) ∧ w'.cell? ⟨B + 1, 0, none⟩ = some (.string (bs k)))
        (first
          | exact Hc01.out
          | exact ⟨⟨(Hb4.out.cell (p := ⟨B, 0, none⟩) Hlt0.out.1).trans Hc01.out.1.1, (Hb4.out.cell (p := ⟨B, 0 + 1, none⟩) Hlt0.out.1).trans Hc01.out.1.2⟩, (Hb4.out.cell (p := ⟨B + 1, 0, none⟩) Hlt0.out.2).trans Hc01.out.2⟩
          | exact ⟨⟨(Hb3.out.cell (p := ⟨B, 0, none⟩) Hlt0.out.1).trans Hc01.out.1.1, (Hb3.out.cell (p := ⟨B, 0 + 1, none⟩) Hlt0.out.1).trans Hc01.out.1.2⟩, (Hb3.out.cell (p := ⟨B + 1, 0, none⟩) Hlt0.out.2).trans Hc01.out.2⟩
          | exact ⟨⟨((Hb3.out.alloc Hb3.out.size _).cell (p := ⟨B, 0, none⟩) Hlt0.out.1).trans Hc01.out.1.1, ((Hb3.out.alloc Hb3.out.size _).cell (p := ⟨B, 0 + 1, none⟩) Hlt0.out.1).trans Hc01.out.1.2⟩, ((Hb3.out.alloc Hb3.out.size _).cell (p := ⟨B + 1, 0, none⟩) Hlt0.out.2).trans Hc01.out.2⟩
          | exact ⟨⟨(((Below.refl w1.heap.size w1).alloc (Nat.le_refl _) _).drew.cell (p := ⟨B, 0, none⟩) Hlt0.out.1).trans Hc01.out.1.1, (((Below.refl w1.heap.size w1).alloc (Nat.le_refl _) _).drew.cell (p := ⟨B, 0 + 1, none⟩) Hlt0.out.1).trans Hc01.out.1.2⟩, (((Below.refl w1.heap.size w1).alloc (Nat.le_refl _) _).drew.cell (p := ⟨B + 1, 0, none⟩) Hlt0.out.2).trans Hc01.out.2⟩
          | exact ⟨⟨((((Below.refl w1.heap.size w1).alloc (Nat.le_refl _) _).alloc (by first | (simp; done) | (simp; omega)) _).drew.cell (p := ⟨B, 0, none⟩) Hlt0.out.1).trans Hc01.out.1.1, ((((Below.refl w1.heap.size w1).alloc (Nat.le_refl _) _).alloc (by first | (simp; done) | (simp; omega)) _).drew.cell (p := ⟨B, 0 + 1, none⟩) Hlt0.out.1).trans Hc01.out.1.2⟩, ((((Below.refl w1.heap.size w1).alloc (Nat.le_refl _) _).alloc (by first | (simp; done) | (simp; omega)) _).drew.cell (p := ⟨B + 1, 0, none⟩) Hlt0.out.2).trans Hc01.out.2⟩
          | exact ⟨⟨(((Below.refl w1.heap.size w1).alloc (Nat.le_refl _) _).cell (p := ⟨B, 0, none⟩) Hlt0.out.1).trans Hc01.out.1.1, (((Below.refl w1.heap.size w1).alloc (Nat.le_refl _) _).cell (p := ⟨B, 0 + 1, none⟩) Hlt0.out.1).trans Hc01.out.1.2⟩, (((Below.refl w1.heap.size w1).alloc (Nat.le_refl _) _).cell (p := ⟨B + 1, 0, none⟩) Hlt0.out.2).trans Hc01.out.2⟩
          | exact ⟨⟨((((Below.refl w1.heap.size w1).alloc (Nat.le_refl _) _).alloc (by first | (simp; done) | (simp; omega)) _).cell (p := ⟨B, 0, none⟩) Hlt0.out.1).trans Hc01.out.1.1, ((((Below.refl w1.heap.size w1).alloc (Nat.le_refl _) _).alloc (by first | (simp; done) | (simp; omega)) _).cell (p := ⟨B, 0 + 1, none⟩) Hlt0.out.1).trans Hc01.out.1.2⟩, ((((Below.refl w1.heap.size w1).alloc (Nat.le_refl _) _).alloc (by first | (simp; done) | (simp; omega)) _).cell (p := ⟨B + 1, 0, none⟩) Hlt0.out.2).trans Hc01.out.2⟩
          | go_keep)
        (first
          | (go_at_call 11; refine (great_no (s :: l) [k] (some ⟨g3, 0, none⟩) _ (1 + n) 1 cap3 1 _ Hn1.out rfl (by first | exact Hw3.out | exact Hw3.out.below ((Below.refl _ _).alloc (Nat.le_refl _) _) (Nat.le_refl _)) (by first | exact row_new _ _ _ | exact row_kept (row_new2 _ _ _ _) (Hk3.out _ (by first | (simp; done) | (simp; omega)) (by first | (simp; done) | omega)) | exact row_kept (row_new _ _ _) ((Hk3.out _ (by first | (simp; done) | (simp; omega)) (by first | (simp; done) | (simp; omega) | omega)).trans (Lib.alloc_old _ _ _ (by first | (simp; done) | (simp; omega))))) (by omega) Hsm.out).mono ?_; rintro e w4 ⟨rfl, hb4⟩; have Hb4 : Hid (Below w1.heap.size w1 w4) := Lib.hid (by first | exact Hb3.out.trans (hb4.mono Hb3.out.size) | exact (Hb3.out.alloc Hb3.out.size _).trans (hb4.mono (Hb3.out.alloc Hb3.out.size _).size)); clear hb4 Hb3 Hw3 Hk3)
          | (refine step_behind (by rfl) _ _ _ (by rfl) w1.heap.size 23 i0 _ 2 32 Try.underlying26 hi0 hz0 hz1 hz2 rfl (by omega) (by omega) _ 1 1 (by omega) [.string (bs s.1), .string (bs s.2)] (by rfl) (by first | exact own_drew (own_one _ _ rfl) | exact own_drew (own_alloc (own_one _ _ rfl) _) | exact own_drew (own_one2 _ _ _ rfl)) A n cap (spC l) (by rfl) (Hr1.out.below (B := w1.heap.size) (by first | exact ((Below.refl w1.heap.size w1).alloc (Nat.le_refl _) _).drew | exact (((Below.refl w1.heap.size w1).alloc (Nat.le_refl _) _).alloc (by first | (simp; done) | (simp; omega)) _).drew) (Nat.le_refl _)) Hsl.out (spC_one l) (by omega) w1 (by first | exact ((Below.refl w1.heap.size w1).alloc (Nat.le_refl _) _).drew | exact (((Below.refl w1.heap.size w1).alloc (Nat.le_refl _) _).alloc (by first | (simp; done) | (simp; omega)) _).drew) (by first | (simp; done) | (simp; omega)) ?_; intro g3 cap3 w3 hown3 hb3 hk3; have Hk3 := Lib.hid hk3; have Hb3 := Lib.hid hb3; have Hw3 : Hid (RowAt w3 (some ⟨g3, 0, none⟩) (spC (s :: l))) := Lib.hid (own_row' hown3); clear hown3 hb3 hk3))
      all_goals
        go_wp2_with fail
        go_meet
        exact ⟨rfl, Hb4.out⟩
    case rest =>
      obtain ⟨rfl, hb⟩ := hcut
      have Hb4 := Lib.hid hb
      have d40 := (Hb4.out.cell (p := ⟨B, 0, none⟩) Hlt0.out.1).trans Hc01.out.1.1
      have d41 := (Hb4.out.cell (p := ⟨B, 0 + 1, none⟩) Hlt0.out.1).trans Hc01.out.1.2
      have d42 := (Hb4.out.cell (p := ⟨B + 1, 0, none⟩) Hlt0.out.2).trans Hc01.out.2
      have hk4 : B + 1 < wc.heap.size := Nat.lt_of_lt_of_le Hlt0.out.2 Hb4.out.size
      clear hb
      have Hul : Hid ((unionL l).length ≤ 1 + 2 * n) := Lib.hid (union_length l n Hn.out)
      have Hml : Hid ((minusL l s).length ≤ 1 + 2 * (n + 1)) := Lib.hid (minus_length l s n Hn.out)
      have Hua : Hid (anyL (unionL l) k = anyL l k) := Lib.hid (by rw [any_valid _ (union_valid l), union_has])
      have Hma : Hid (anyL (minusL l s) k = (anyL l k && !(validL s && hasL s k))) := Lib.hid (by rw [any_valid _ (minus_valid l s), minus_has]; rfl)
      have HV := Lib.hid (fun W => HG.out.right s W)
      have HH := Lib.hid (fun W => HG.out.has s k W)
      unfold spV at HV HH
      obtain ⟨a, ha⟩ : ∃ a, anyL l k = a := ⟨_, rfl⟩
      have Ha := Lib.hid ha
      rw [ha] at Hua Hma
      clear ha
      cases hv : validL s with
      | false =>
        rw [hv] at HV Hma
        rw [Bool.false_and] at Hma
        clear hv
        cases a with
        | false =>
          go_wp2_with fail
          refine (HV.out wc).mono ?_
          rintro e w5 ⟨rfl, hb5⟩
          have Hb5 := Lib.hid (Hb4.out.trans (hb5.mono Hb4.out.size))
          have d50 := (Hb5.out.cell (p := ⟨B, 0, none⟩) Hlt0.out.1).trans Hc01.out.1.1
          have d51 := (Hb5.out.cell (p := ⟨B, 0 + 1, none⟩) Hlt0.out.1).trans Hc01.out.1.2
          have d52 := (Hb5.out.cell (p := ⟨B + 1, 0, none⟩) Hlt0.out.2).trans Hc01.out.2
          have Hl5 := Lib.hid (Hr1.out.below Hb5.out (Nat.le_refl _))
          have hk5 : B + 1 < w5.heap.size := Nat.lt_of_lt_of_le Hlt0.out.2 Hb5.out.size
          clear hb5 d40 d41 d42 hk4
          go_wp2_with fail
          refine (HG.out.union l A n cap w5 Hn.out Hl5.out (by omega)).mono ?_
          rintro e w7 ⟨⟨A7, n7, cap7, rfl, hn7, hr7⟩, hb7⟩
          have Hn7 := Lib.hid hn7
          have Hr7 := Lib.hid hr7
          have hn7le : n7 ≤ 100 := by have := Hul.out; omega
          have Hb7 := Lib.hid (Hb5.out.trans (hb7.mono Hb5.out.size))
          have d70 := (Hb7.out.cell (p := ⟨B, 0, none⟩) Hlt0.out.1).trans Hc01.out.1.1
          have d71 := (Hb7.out.cell (p := ⟨B, 0 + 1, none⟩) Hlt0.out.1).trans Hc01.out.1.2
          have d72 := (Hb7.out.cell (p := ⟨B + 1, 0, none⟩) Hlt0.out.2).trans Hc01.out.2
          have Hl7 := Lib.hid (Hr1.out.below Hb7.out (Nat.le_refl _))
          have hk7 : B + 1 < w7.heap.size := Nat.lt_of_lt_of_le Hlt0.out.2 Hb7.out.size
          clear hb7 d50 d51 d52 hk5
          clear hn7 hr7
          go_wp2_with fail
          refine (in_any HG.out (unionL l) A7 n7 cap7 k (B + 1) w7 Hn7.out Hr7.out (by omega) hk7 d72).mono ?_
          rw [Hua.out]
          rintro e w8 ⟨rfl, hb8⟩
          have Hb8 := Lib.hid (Hb7.out.trans (hb8.mono Hb7.out.size))
          have d80 := (Hb8.out.cell (p := ⟨B, 0, none⟩) Hlt0.out.1).trans Hc01.out.1.1
          have d81 := (Hb8.out.cell (p := ⟨B, 0 + 1, none⟩) Hlt0.out.1).trans Hc01.out.1.2
          have d82 := (Hb8.out.cell (p := ⟨B + 1, 0, none⟩) Hlt0.out.2).trans Hc01.out.2
          have Hl8 := Lib.hid (Hr1.out.below Hb8.out (Nat.le_refl _))
          have hk8 : B + 1 < w8.heap.size := Nat.lt_of_lt_of_le Hlt0.out.2 Hb8.out.size
          clear hb8 d70 d71 d72 hk7
          go_wp2_with fail
          refine (in_any HG.out l A n cap k (B + 1) w8 Hn.out Hl8.out (by omega) hk8 d82).mono ?_
          rw [Ha.out]
          rintro e w9 ⟨rfl, hb9⟩
          have Hb9 := Lib.hid (Hb8.out.trans (hb9.mono Hb8.out.size))
          have d90 := (Hb9.out.cell (p := ⟨B, 0, none⟩) Hlt0.out.1).trans Hc01.out.1.1
          have d91 := (Hb9.out.cell (p := ⟨B, 0 + 1, none⟩) Hlt0.out.1).trans Hc01.out.1.2
          have d92 := (Hb9.out.cell (p := ⟨B + 1, 0, none⟩) Hlt0.out.2).trans Hc01.out.2
          have Hl9 := Lib.hid (Hr1.out.below Hb9.out (Nat.le_refl _))
          have hk9 : B + 1 < w9.heap.size := Nat.lt_of_lt_of_le Hlt0.out.2 Hb9.out.size
          clear hb9 d80 d81 d82 hk8
          go_wp2_with fail
          refine (HG.out.minus l A n cap s w9 Hn.out Hl9.out (by omega)).mono ?_
          rintro e w10 ⟨⟨A10, n10, cap10, rfl, hn10, hr10⟩, hb10⟩
          have Hn10 := Lib.hid hn10
          have Hr10 := Lib.hid hr10
          have hn10le : n10 ≤ 100 := by have := Hml.out; omega
          have Hb10 := Lib.hid (Hb9.out.trans (hb10.mono Hb9.out.size))
          have d100 := (Hb10.out.cell (p := ⟨B, 0, none⟩) Hlt0.out.1).trans Hc01.out.1.1
          have d101 := (Hb10.out.cell (p := ⟨B, 0 + 1, none⟩) Hlt0.out.1).trans Hc01.out.1.2
          have d102 := (Hb10.out.cell (p := ⟨B + 1, 0, none⟩) Hlt0.out.2).trans Hc01.out.2
          have Hl10 := Lib.hid (Hr1.out.below Hb10.out (Nat.le_refl _))
          have hk10 : B + 1 < w10.heap.size := Nat.lt_of_lt_of_le Hlt0.out.2 Hb10.out.size
          clear hb10 d90 d91 d92 hk9
          clear hn10 hr10
          go_wp2_with fail
          refine (in_any HG.out (minusL l s) A10 n10 cap10 k (B + 1) w10 Hn10.out Hr10.out (by omega) hk10 d102).mono ?_
          rw [Hma.out]
          rintro e w11 ⟨rfl, hb11⟩
          have Hb11 := Lib.hid (Hb10.out.trans (hb11.mono Hb10.out.size))
          have d110 := (Hb11.out.cell (p := ⟨B, 0, none⟩) Hlt0.out.1).trans Hc01.out.1.1
          have d111 := (Hb11.out.cell (p := ⟨B, 0 + 1, none⟩) Hlt0.out.1).trans Hc01.out.1.2
          have d112 := (Hb11.out.cell (p := ⟨B + 1, 0, none⟩) Hlt0.out.2).trans Hc01.out.2
          have Hl11 := Lib.hid (Hr1.out.below Hb11.out (Nat.le_refl _))
          have hk11 : B + 1 < w11.heap.size := Nat.lt_of_lt_of_le Hlt0.out.2 Hb11.out.size
          clear hb11 d100 d101 d102 hk10
          go_wp2_with fail
          refine (in_any HG.out l A n cap k (B + 1) w11 Hn.out Hl11.out (by omega) hk11 d112).mono ?_
          rw [Ha.out]
          rintro e w12 ⟨rfl, hb12⟩
          have Hb12 := Lib.hid (Hb11.out.trans (hb12.mono Hb11.out.size))
          have d120 := (Hb12.out.cell (p := ⟨B, 0, none⟩) Hlt0.out.1).trans Hc01.out.1.1
          have d121 := (Hb12.out.cell (p := ⟨B, 0 + 1, none⟩) Hlt0.out.1).trans Hc01.out.1.2
          have d122 := (Hb12.out.cell (p := ⟨B + 1, 0, none⟩) Hlt0.out.2).trans Hc01.out.2
          have Hl12 := Lib.hid (Hr1.out.below Hb12.out (Nat.le_refl _))
          have hk12 : B + 1 < w12.heap.size := Nat.lt_of_lt_of_le Hlt0.out.2 Hb12.out.size
          clear hb12 d110 d111 d112 hk11
          go_wp2
          go_ret
          exact ⟨rfl, by rw [hB]; exact Hb1.out.trans (Hb12.out.mono HB1.out)⟩
        | true =>
          go_wp2_with fail
          refine (HV.out wc).mono ?_
          rintro e w5 ⟨rfl, hb5⟩
          have Hb5 := Lib.hid (Hb4.out.trans (hb5.mono Hb4.out.size))
          have d50 := (Hb5.out.cell (p := ⟨B, 0, none⟩) Hlt0.out.1).trans Hc01.out.1.1
          have d51 := (Hb5.out.cell (p := ⟨B, 0 + 1, none⟩) Hlt0.out.1).trans Hc01.out.1.2
          have d52 := (Hb5.out.cell (p := ⟨B + 1, 0, none⟩) Hlt0.out.2).trans Hc01.out.2
          have Hl5 := Lib.hid (Hr1.out.below Hb5.out (Nat.le_refl _))
          have hk5 : B + 1 < w5.heap.size := Nat.lt_of_lt_of_le Hlt0.out.2 Hb5.out.size
          clear hb5 d40 d41 d42 hk4
          go_wp2_with fail
          refine (HG.out.union l A n cap w5 Hn.out Hl5.out (by omega)).mono ?_
          rintro e w7 ⟨⟨A7, n7, cap7, rfl, hn7, hr7⟩, hb7⟩
          have Hn7 := Lib.hid hn7
          have Hr7 := Lib.hid hr7
          have hn7le : n7 ≤ 100 := by have := Hul.out; omega
          have Hb7 := Lib.hid (Hb5.out.trans (hb7.mono Hb5.out.size))
          have d70 := (Hb7.out.cell (p := ⟨B, 0, none⟩) Hlt0.out.1).trans Hc01.out.1.1
          have d71 := (Hb7.out.cell (p := ⟨B, 0 + 1, none⟩) Hlt0.out.1).trans Hc01.out.1.2
          have d72 := (Hb7.out.cell (p := ⟨B + 1, 0, none⟩) Hlt0.out.2).trans Hc01.out.2
          have Hl7 := Lib.hid (Hr1.out.below Hb7.out (Nat.le_refl _))
          have hk7 : B + 1 < w7.heap.size := Nat.lt_of_lt_of_le Hlt0.out.2 Hb7.out.size
          clear hb7 d50 d51 d52 hk5
          clear hn7 hr7
          go_wp2_with fail
          refine (in_any HG.out (unionL l) A7 n7 cap7 k (B + 1) w7 Hn7.out Hr7.out (by omega) hk7 d72).mono ?_
          rw [Hua.out]
          rintro e w8 ⟨rfl, hb8⟩
          have Hb8 := Lib.hid (Hb7.out.trans (hb8.mono Hb7.out.size))
          have d80 := (Hb8.out.cell (p := ⟨B, 0, none⟩) Hlt0.out.1).trans Hc01.out.1.1
          have d81 := (Hb8.out.cell (p := ⟨B, 0 + 1, none⟩) Hlt0.out.1).trans Hc01.out.1.2
          have d82 := (Hb8.out.cell (p := ⟨B + 1, 0, none⟩) Hlt0.out.2).trans Hc01.out.2
          have Hl8 := Lib.hid (Hr1.out.below Hb8.out (Nat.le_refl _))
          have hk8 : B + 1 < w8.heap.size := Nat.lt_of_lt_of_le Hlt0.out.2 Hb8.out.size
          clear hb8 d70 d71 d72 hk7
          go_wp2_with fail
          refine (in_any HG.out l A n cap k (B + 1) w8 Hn.out Hl8.out (by omega) hk8 d82).mono ?_
          rw [Ha.out]
          rintro e w9 ⟨rfl, hb9⟩
          have Hb9 := Lib.hid (Hb8.out.trans (hb9.mono Hb8.out.size))
          have d90 := (Hb9.out.cell (p := ⟨B, 0, none⟩) Hlt0.out.1).trans Hc01.out.1.1
          have d91 := (Hb9.out.cell (p := ⟨B, 0 + 1, none⟩) Hlt0.out.1).trans Hc01.out.1.2
          have d92 := (Hb9.out.cell (p := ⟨B + 1, 0, none⟩) Hlt0.out.2).trans Hc01.out.2
          have Hl9 := Lib.hid (Hr1.out.below Hb9.out (Nat.le_refl _))
          have hk9 : B + 1 < w9.heap.size := Nat.lt_of_lt_of_le Hlt0.out.2 Hb9.out.size
          clear hb9 d80 d81 d82 hk8
          go_wp2_with fail
          refine (HG.out.minus l A n cap s w9 Hn.out Hl9.out (by omega)).mono ?_
          rintro e w10 ⟨⟨A10, n10, cap10, rfl, hn10, hr10⟩, hb10⟩
          have Hn10 := Lib.hid hn10
          have Hr10 := Lib.hid hr10
          have hn10le : n10 ≤ 100 := by have := Hml.out; omega
          have Hb10 := Lib.hid (Hb9.out.trans (hb10.mono Hb9.out.size))
          have d100 := (Hb10.out.cell (p := ⟨B, 0, none⟩) Hlt0.out.1).trans Hc01.out.1.1
          have d101 := (Hb10.out.cell (p := ⟨B, 0 + 1, none⟩) Hlt0.out.1).trans Hc01.out.1.2
          have d102 := (Hb10.out.cell (p := ⟨B + 1, 0, none⟩) Hlt0.out.2).trans Hc01.out.2
          have Hl10 := Lib.hid (Hr1.out.below Hb10.out (Nat.le_refl _))
          have hk10 : B + 1 < w10.heap.size := Nat.lt_of_lt_of_le Hlt0.out.2 Hb10.out.size
          clear hb10 d90 d91 d92 hk9
          clear hn10 hr10
          go_wp2_with fail
          refine (in_any HG.out (minusL l s) A10 n10 cap10 k (B + 1) w10 Hn10.out Hr10.out (by omega) hk10 d102).mono ?_
          rw [Hma.out]
          rintro e w11 ⟨rfl, hb11⟩
          have Hb11 := Lib.hid (Hb10.out.trans (hb11.mono Hb10.out.size))
          have d110 := (Hb11.out.cell (p := ⟨B, 0, none⟩) Hlt0.out.1).trans Hc01.out.1.1
          have d111 := (Hb11.out.cell (p := ⟨B, 0 + 1, none⟩) Hlt0.out.1).trans Hc01.out.1.2
          have d112 := (Hb11.out.cell (p := ⟨B + 1, 0, none⟩) Hlt0.out.2).trans Hc01.out.2
          have Hl11 := Lib.hid (Hr1.out.below Hb11.out (Nat.le_refl _))
          have hk11 : B + 1 < w11.heap.size := Nat.lt_of_lt_of_le Hlt0.out.2 Hb11.out.size
          clear hb11 d100 d101 d102 hk10
          go_wp2_with fail
          refine (in_any HG.out l A n cap k (B + 1) w11 Hn.out Hl11.out (by omega) hk11 d112).mono ?_
          rw [Ha.out]
          rintro e w12 ⟨rfl, hb12⟩
          have Hb12 := Lib.hid (Hb11.out.trans (hb12.mono Hb11.out.size))
          have d120 := (Hb12.out.cell (p := ⟨B, 0, none⟩) Hlt0.out.1).trans Hc01.out.1.1
          have d121 := (Hb12.out.cell (p := ⟨B, 0 + 1, none⟩) Hlt0.out.1).trans Hc01.out.1.2
          have d122 := (Hb12.out.cell (p := ⟨B + 1, 0, none⟩) Hlt0.out.2).trans Hc01.out.2
          have Hl12 := Lib.hid (Hr1.out.below Hb12.out (Nat.le_refl _))
          have hk12 : B + 1 < w12.heap.size := Nat.lt_of_lt_of_le Hlt0.out.2 Hb12.out.size
          clear hb12 d110 d111 d112 hk11
          go_wp2
          go_ret
          exact ⟨rfl, by rw [hB]; exact Hb1.out.trans (Hb12.out.mono HB1.out)⟩
      | true =>
        rw [hv] at HV Hma
        rw [Bool.true_and] at Hma
        clear hv
        cases hh : hasL s k with
        | false =>
          rw [hh] at HH Hma
          clear hh
          cases a with
          | false =>
            go_wp2_with fail
            refine (HV.out wc).mono ?_
            rintro e w5 ⟨rfl, hb5⟩
            have Hb5 := Lib.hid (Hb4.out.trans (hb5.mono Hb4.out.size))
            have d50 := (Hb5.out.cell (p := ⟨B, 0, none⟩) Hlt0.out.1).trans Hc01.out.1.1
            have d51 := (Hb5.out.cell (p := ⟨B, 0 + 1, none⟩) Hlt0.out.1).trans Hc01.out.1.2
            have d52 := (Hb5.out.cell (p := ⟨B + 1, 0, none⟩) Hlt0.out.2).trans Hc01.out.2
            have Hl5 := Lib.hid (Hr1.out.below Hb5.out (Nat.le_refl _))
            have hk5 : B + 1 < w5.heap.size := Nat.lt_of_lt_of_le Hlt0.out.2 Hb5.out.size
            clear hb5 d40 d41 d42 hk4
            go_wp2_with fail
            refine (HH.out w5).mono ?_
            rintro e w6 ⟨rfl, hb6⟩
            have Hb6 := Lib.hid (Hb5.out.trans (hb6.mono Hb5.out.size))
            have d60 := (Hb6.out.cell (p := ⟨B, 0, none⟩) Hlt0.out.1).trans Hc01.out.1.1
            have d61 := (Hb6.out.cell (p := ⟨B, 0 + 1, none⟩) Hlt0.out.1).trans Hc01.out.1.2
            have d62 := (Hb6.out.cell (p := ⟨B + 1, 0, none⟩) Hlt0.out.2).trans Hc01.out.2
            have Hl6 := Lib.hid (Hr1.out.below Hb6.out (Nat.le_refl _))
            have hk6 : B + 1 < w6.heap.size := Nat.lt_of_lt_of_le Hlt0.out.2 Hb6.out.size
            clear hb6 d50 d51 d52 hk5
            go_wp2_with fail
            refine (HG.out.union l A n cap w6 Hn.out Hl6.out (by omega)).mono ?_
            rintro e w7 ⟨⟨A7, n7, cap7, rfl, hn7, hr7⟩, hb7⟩
            have Hn7 := Lib.hid hn7
            have Hr7 := Lib.hid hr7
            have hn7le : n7 ≤ 100 := by have := Hul.out; omega
            have Hb7 := Lib.hid (Hb6.out.trans (hb7.mono Hb6.out.size))
            have d70 := (Hb7.out.cell (p := ⟨B, 0, none⟩) Hlt0.out.1).trans Hc01.out.1.1
            have d71 := (Hb7.out.cell (p := ⟨B, 0 + 1, none⟩) Hlt0.out.1).trans Hc01.out.1.2
            have d72 := (Hb7.out.cell (p := ⟨B + 1, 0, none⟩) Hlt0.out.2).trans Hc01.out.2
            have Hl7 := Lib.hid (Hr1.out.below Hb7.out (Nat.le_refl _))
            have hk7 : B + 1 < w7.heap.size := Nat.lt_of_lt_of_le Hlt0.out.2 Hb7.out.size
            clear hb7 d60 d61 d62 hk6
            clear hn7 hr7
            go_wp2_with fail
            refine (in_any HG.out (unionL l) A7 n7 cap7 k (B + 1) w7 Hn7.out Hr7.out (by omega) hk7 d72).mono ?_
            rw [Hua.out]
            rintro e w8 ⟨rfl, hb8⟩
            have Hb8 := Lib.hid (Hb7.out.trans (hb8.mono Hb7.out.size))
            have d80 := (Hb8.out.cell (p := ⟨B, 0, none⟩) Hlt0.out.1).trans Hc01.out.1.1
            have d81 := (Hb8.out.cell (p := ⟨B, 0 + 1, none⟩) Hlt0.out.1).trans Hc01.out.1.2
            have d82 := (Hb8.out.cell (p := ⟨B + 1, 0, none⟩) Hlt0.out.2).trans Hc01.out.2
            have Hl8 := Lib.hid (Hr1.out.below Hb8.out (Nat.le_refl _))
            have hk8 : B + 1 < w8.heap.size := Nat.lt_of_lt_of_le Hlt0.out.2 Hb8.out.size
            clear hb8 d70 d71 d72 hk7
            go_wp2_with fail
            refine (in_any HG.out l A n cap k (B + 1) w8 Hn.out Hl8.out (by omega) hk8 d82).mono ?_
            rw [Ha.out]
            rintro e w9 ⟨rfl, hb9⟩
            have Hb9 := Lib.hid (Hb8.out.trans (hb9.mono Hb8.out.size))
            have d90 := (Hb9.out.cell (p := ⟨B, 0, none⟩) Hlt0.out.1).trans Hc01.out.1.1
            have d91 := (Hb9.out.cell (p := ⟨B, 0 + 1, none⟩) Hlt0.out.1).trans Hc01.out.1.2
            have d92 := (Hb9.out.cell (p := ⟨B + 1, 0, none⟩) Hlt0.out.2).trans Hc01.out.2
            have Hl9 := Lib.hid (Hr1.out.below Hb9.out (Nat.le_refl _))
            have hk9 : B + 1 < w9.heap.size := Nat.lt_of_lt_of_le Hlt0.out.2 Hb9.out.size
            clear hb9 d80 d81 d82 hk8
            go_wp2_with fail
            refine (HG.out.minus l A n cap s w9 Hn.out Hl9.out (by omega)).mono ?_
            rintro e w10 ⟨⟨A10, n10, cap10, rfl, hn10, hr10⟩, hb10⟩
            have Hn10 := Lib.hid hn10
            have Hr10 := Lib.hid hr10
            have hn10le : n10 ≤ 100 := by have := Hml.out; omega
            have Hb10 := Lib.hid (Hb9.out.trans (hb10.mono Hb9.out.size))
            have d100 := (Hb10.out.cell (p := ⟨B, 0, none⟩) Hlt0.out.1).trans Hc01.out.1.1
            have d101 := (Hb10.out.cell (p := ⟨B, 0 + 1, none⟩) Hlt0.out.1).trans Hc01.out.1.2
            have d102 := (Hb10.out.cell (p := ⟨B + 1, 0, none⟩) Hlt0.out.2).trans Hc01.out.2
            have Hl10 := Lib.hid (Hr1.out.below Hb10.out (Nat.le_refl _))
            have hk10 : B + 1 < w10.heap.size := Nat.lt_of_lt_of_le Hlt0.out.2 Hb10.out.size
            clear hb10 d90 d91 d92 hk9
            clear hn10 hr10
            go_wp2_with fail
            refine (in_any HG.out (minusL l s) A10 n10 cap10 k (B + 1) w10 Hn10.out Hr10.out (by omega) hk10 d102).mono ?_
            rw [Hma.out]
            rintro e w11 ⟨rfl, hb11⟩
            have Hb11 := Lib.hid (Hb10.out.trans (hb11.mono Hb10.out.size))
            have d110 := (Hb11.out.cell (p := ⟨B, 0, none⟩) Hlt0.out.1).trans Hc01.out.1.1
            have d111 := (Hb11.out.cell (p := ⟨B, 0 + 1, none⟩) Hlt0.out.1).trans Hc01.out.1.2
            have d112 := (Hb11.out.cell (p := ⟨B + 1, 0, none⟩) Hlt0.out.2).trans Hc01.out.2
            have Hl11 := Lib.hid (Hr1.out.below Hb11.out (Nat.le_refl _))
            have hk11 : B + 1 < w11.heap.size := Nat.lt_of_lt_of_le Hlt0.out.2 Hb11.out.size
            clear hb11 d100 d101 d102 hk10
            go_wp2_with fail
            refine (in_any HG.out l A n cap k (B + 1) w11 Hn.out Hl11.out (by omega) hk11 d112).mono ?_
            rw [Ha.out]
            rintro e w12 ⟨rfl, hb12⟩
            have Hb12 := Lib.hid (Hb11.out.trans (hb12.mono Hb11.out.size))
            have d120 := (Hb12.out.cell (p := ⟨B, 0, none⟩) Hlt0.out.1).trans Hc01.out.1.1
            have d121 := (Hb12.out.cell (p := ⟨B, 0 + 1, none⟩) Hlt0.out.1).trans Hc01.out.1.2
            have d122 := (Hb12.out.cell (p := ⟨B + 1, 0, none⟩) Hlt0.out.2).trans Hc01.out.2
            have Hl12 := Lib.hid (Hr1.out.below Hb12.out (Nat.le_refl _))
            have hk12 : B + 1 < w12.heap.size := Nat.lt_of_lt_of_le Hlt0.out.2 Hb12.out.size
            clear hb12 d110 d111 d112 hk11
            go_wp2
            go_ret
            exact ⟨rfl, by rw [hB]; exact Hb1.out.trans (Hb12.out.mono HB1.out)⟩
          | true =>
            go_wp2_with fail
            refine (HV.out wc).mono ?_
            rintro e w5 ⟨rfl, hb5⟩
            have Hb5 := Lib.hid (Hb4.out.trans (hb5.mono Hb4.out.size))
            have d50 := (Hb5.out.cell (p := ⟨B, 0, none⟩) Hlt0.out.1).trans Hc01.out.1.1
            have d51 := (Hb5.out.cell (p := ⟨B, 0 + 1, none⟩) Hlt0.out.1).trans Hc01.out.1.2
            have d52 := (Hb5.out.cell (p := ⟨B + 1, 0, none⟩) Hlt0.out.2).trans Hc01.out.2
            have Hl5 := Lib.hid (Hr1.out.below Hb5.out (Nat.le_refl _))
            have hk5 : B + 1 < w5.heap.size := Nat.lt_of_lt_of_le Hlt0.out.2 Hb5.out.size
            clear hb5 d40 d41 d42 hk4
            go_wp2_with fail
            refine (HH.out w5).mono ?_
            rintro e w6 ⟨rfl, hb6⟩
            have Hb6 := Lib.hid (Hb5.out.trans (hb6.mono Hb5.out.size))
            have d60 := (Hb6.out.cell (p := ⟨B, 0, none⟩) Hlt0.out.1).trans Hc01.out.1.1
            have d61 := (Hb6.out.cell (p := ⟨B, 0 + 1, none⟩) Hlt0.out.1).trans Hc01.out.1.2
            have d62 := (Hb6.out.cell (p := ⟨B + 1, 0, none⟩) Hlt0.out.2).trans Hc01.out.2
            have Hl6 := Lib.hid (Hr1.out.below Hb6.out (Nat.le_refl _))
            have hk6 : B + 1 < w6.heap.size := Nat.lt_of_lt_of_le Hlt0.out.2 Hb6.out.size
            clear hb6 d50 d51 d52 hk5
            go_wp2_with fail
            refine (HG.out.union l A n cap w6 Hn.out Hl6.out (by omega)).mono ?_
            rintro e w7 ⟨⟨A7, n7, cap7, rfl, hn7, hr7⟩, hb7⟩
            have Hn7 := Lib.hid hn7
            have Hr7 := Lib.hid hr7
            have hn7le : n7 ≤ 100 := by have := Hul.out; omega
            have Hb7 := Lib.hid (Hb6.out.trans (hb7.mono Hb6.out.size))
            have d70 := (Hb7.out.cell (p := ⟨B, 0, none⟩) Hlt0.out.1).trans Hc01.out.1.1
            have d71 := (Hb7.out.cell (p := ⟨B, 0 + 1, none⟩) Hlt0.out.1).trans Hc01.out.1.2
            have d72 := (Hb7.out.cell (p := ⟨B + 1, 0, none⟩) Hlt0.out.2).trans Hc01.out.2
            have Hl7 := Lib.hid (Hr1.out.below Hb7.out (Nat.le_refl _))
            have hk7 : B + 1 < w7.heap.size := Nat.lt_of_lt_of_le Hlt0.out.2 Hb7.out.size
            clear hb7 d60 d61 d62 hk6
            clear hn7 hr7
            go_wp2_with fail
            refine (in_any HG.out (unionL l) A7 n7 cap7 k (B + 1) w7 Hn7.out Hr7.out (by omega) hk7 d72).mono ?_
            rw [Hua.out]
            rintro e w8 ⟨rfl, hb8⟩
            have Hb8 := Lib.hid (Hb7.out.trans (hb8.mono Hb7.out.size))
            have d80 := (Hb8.out.cell (p := ⟨B, 0, none⟩) Hlt0.out.1).trans Hc01.out.1.1
            have d81 := (Hb8.out.cell (p := ⟨B, 0 + 1, none⟩) Hlt0.out.1).trans Hc01.out.1.2
            have d82 := (Hb8.out.cell (p := ⟨B + 1, 0, none⟩) Hlt0.out.2).trans Hc01.out.2
            have Hl8 := Lib.hid (Hr1.out.below Hb8.out (Nat.le_refl _))
            have hk8 : B + 1 < w8.heap.size := Nat.lt_of_lt_of_le Hlt0.out.2 Hb8.out.size
            clear hb8 d70 d71 d72 hk7
            go_wp2_with fail
            refine (in_any HG.out l A n cap k (B + 1) w8 Hn.out Hl8.out (by omega) hk8 d82).mono ?_
            rw [Ha.out]
            rintro e w9 ⟨rfl, hb9⟩
            have Hb9 := Lib.hid (Hb8.out.trans (hb9.mono Hb8.out.size))
            have d90 := (Hb9.out.cell (p := ⟨B, 0, none⟩) Hlt0.out.1).trans Hc01.out.1.1
            have d91 := (Hb9.out.cell (p := ⟨B, 0 + 1, none⟩) Hlt0.out.1).trans Hc01.out.1.2
            have d92 := (Hb9.out.cell (p := ⟨B + 1, 0, none⟩) Hlt0.out.2).trans Hc01.out.2
            have Hl9 := Lib.hid (Hr1.out.below Hb9.out (Nat.le_refl _))
            have hk9 : B + 1 < w9.heap.size := Nat.lt_of_lt_of_le Hlt0.out.2 Hb9.out.size
            clear hb9 d80 d81 d82 hk8
            go_wp2_with fail
            refine (HG.out.minus l A n cap s w9 Hn.out Hl9.out (by omega)).mono ?_
            rintro e w10 ⟨⟨A10, n10, cap10, rfl, hn10, hr10⟩, hb10⟩
            have Hn10 := Lib.hid hn10
            have Hr10 := Lib.hid hr10
            have hn10le : n10 ≤ 100 := by have := Hml.out; omega
            have Hb10 := Lib.hid (Hb9.out.trans (hb10.mono Hb9.out.size))
            have d100 := (Hb10.out.cell (p := ⟨B, 0, none⟩) Hlt0.out.1).trans Hc01.out.1.1
            have d101 := (Hb10.out.cell (p := ⟨B, 0 + 1, none⟩) Hlt0.out.1).trans Hc01.out.1.2
            have d102 := (Hb10.out.cell (p := ⟨B + 1, 0, none⟩) Hlt0.out.2).trans Hc01.out.2
            have Hl10 := Lib.hid (Hr1.out.below Hb10.out (Nat.le_refl _))
            have hk10 : B + 1 < w10.heap.size := Nat.lt_of_lt_of_le Hlt0.out.2 Hb10.out.size
            clear hb10 d90 d91 d92 hk9
            clear hn10 hr10
            go_wp2_with fail
            refine (in_any HG.out (minusL l s) A10 n10 cap10 k (B + 1) w10 Hn10.out Hr10.out (by omega) hk10 d102).mono ?_
            rw [Hma.out]
            rintro e w11 ⟨rfl, hb11⟩
            have Hb11 := Lib.hid (Hb10.out.trans (hb11.mono Hb10.out.size))
            have d110 := (Hb11.out.cell (p := ⟨B, 0, none⟩) Hlt0.out.1).trans Hc01.out.1.1
            have d111 := (Hb11.out.cell (p := ⟨B, 0 + 1, none⟩) Hlt0.out.1).trans Hc01.out.1.2
            have d112 := (Hb11.out.cell (p := ⟨B + 1, 0, none⟩) Hlt0.out.2).trans Hc01.out.2
            have Hl11 := Lib.hid (Hr1.out.below Hb11.out (Nat.le_refl _))
            have hk11 : B + 1 < w11.heap.size := Nat.lt_of_lt_of_le Hlt0.out.2 Hb11.out.size
            clear hb11 d100 d101 d102 hk10
            go_wp2_with fail
            refine (in_any HG.out l A n cap k (B + 1) w11 Hn.out Hl11.out (by omega) hk11 d112).mono ?_
            rw [Ha.out]
            rintro e w12 ⟨rfl, hb12⟩
            have Hb12 := Lib.hid (Hb11.out.trans (hb12.mono Hb11.out.size))
            have d120 := (Hb12.out.cell (p := ⟨B, 0, none⟩) Hlt0.out.1).trans Hc01.out.1.1
            have d121 := (Hb12.out.cell (p := ⟨B, 0 + 1, none⟩) Hlt0.out.1).trans Hc01.out.1.2
            have d122 := (Hb12.out.cell (p := ⟨B + 1, 0, none⟩) Hlt0.out.2).trans Hc01.out.2
            have Hl12 := Lib.hid (Hr1.out.below Hb12.out (Nat.le_refl _))
            have hk12 : B + 1 < w12.heap.size := Nat.lt_of_lt_of_le Hlt0.out.2 Hb12.out.size
            clear hb12 d110 d111 d112 hk11
            go_wp2
            go_ret
            exact ⟨rfl, by rw [hB]; exact Hb1.out.trans (Hb12.out.mono HB1.out)⟩
        | true =>
          rw [hh] at HH Hma
          clear hh
          cases a with
          | false =>
            go_wp2_with fail
            refine (HV.out wc).mono ?_
            rintro e w5 ⟨rfl, hb5⟩
            have Hb5 := Lib.hid (Hb4.out.trans (hb5.mono Hb4.out.size))
            have d50 := (Hb5.out.cell (p := ⟨B, 0, none⟩) Hlt0.out.1).trans Hc01.out.1.1
            have d51 := (Hb5.out.cell (p := ⟨B, 0 + 1, none⟩) Hlt0.out.1).trans Hc01.out.1.2
            have d52 := (Hb5.out.cell (p := ⟨B + 1, 0, none⟩) Hlt0.out.2).trans Hc01.out.2
            have Hl5 := Lib.hid (Hr1.out.below Hb5.out (Nat.le_refl _))
            have hk5 : B + 1 < w5.heap.size := Nat.lt_of_lt_of_le Hlt0.out.2 Hb5.out.size
            clear hb5 d40 d41 d42 hk4
            go_wp2_with fail
            refine (HH.out w5).mono ?_
            rintro e w6 ⟨rfl, hb6⟩
            have Hb6 := Lib.hid (Hb5.out.trans (hb6.mono Hb5.out.size))
            have d60 := (Hb6.out.cell (p := ⟨B, 0, none⟩) Hlt0.out.1).trans Hc01.out.1.1
            have d61 := (Hb6.out.cell (p := ⟨B, 0 + 1, none⟩) Hlt0.out.1).trans Hc01.out.1.2
            have d62 := (Hb6.out.cell (p := ⟨B + 1, 0, none⟩) Hlt0.out.2).trans Hc01.out.2
            have Hl6 := Lib.hid (Hr1.out.below Hb6.out (Nat.le_refl _))
            have hk6 : B + 1 < w6.heap.size := Nat.lt_of_lt_of_le Hlt0.out.2 Hb6.out.size
            clear hb6 d50 d51 d52 hk5
            go_wp2_with fail
            refine (HG.out.union l A n cap w6 Hn.out Hl6.out (by omega)).mono ?_
            rintro e w7 ⟨⟨A7, n7, cap7, rfl, hn7, hr7⟩, hb7⟩
            have Hn7 := Lib.hid hn7
            have Hr7 := Lib.hid hr7
            have hn7le : n7 ≤ 100 := by have := Hul.out; omega
            have Hb7 := Lib.hid (Hb6.out.trans (hb7.mono Hb6.out.size))
            have d70 := (Hb7.out.cell (p := ⟨B, 0, none⟩) Hlt0.out.1).trans Hc01.out.1.1
            have d71 := (Hb7.out.cell (p := ⟨B, 0 + 1, none⟩) Hlt0.out.1).trans Hc01.out.1.2
            have d72 := (Hb7.out.cell (p := ⟨B + 1, 0, none⟩) Hlt0.out.2).trans Hc01.out.2
            have Hl7 := Lib.hid (Hr1.out.below Hb7.out (Nat.le_refl _))
            have hk7 : B + 1 < w7.heap.size := Nat.lt_of_lt_of_le Hlt0.out.2 Hb7.out.size
            clear hb7 d60 d61 d62 hk6
            clear hn7 hr7
            go_wp2_with fail
            refine (in_any HG.out (unionL l) A7 n7 cap7 k (B + 1) w7 Hn7.out Hr7.out (by omega) hk7 d72).mono ?_
            rw [Hua.out]
            rintro e w8 ⟨rfl, hb8⟩
            have Hb8 := Lib.hid (Hb7.out.trans (hb8.mono Hb7.out.size))
            have d80 := (Hb8.out.cell (p := ⟨B, 0, none⟩) Hlt0.out.1).trans Hc01.out.1.1
            have d81 := (Hb8.out.cell (p := ⟨B, 0 + 1, none⟩) Hlt0.out.1).trans Hc01.out.1.2
            have d82 := (Hb8.out.cell (p := ⟨B + 1, 0, none⟩) Hlt0.out.2).trans Hc01.out.2
            have Hl8 := Lib.hid (Hr1.out.below Hb8.out (Nat.le_refl _))
            have hk8 : B + 1 < w8.heap.size := Nat.lt_of_lt_of_le Hlt0.out.2 Hb8.out.size
            clear hb8 d70 d71 d72 hk7
            go_wp2_with fail
            refine (in_any HG.out l A n cap k (B + 1) w8 Hn.out Hl8.out (by omega) hk8 d82).mono ?_
            rw [Ha.out]
            rintro e w9 ⟨rfl, hb9⟩
            have Hb9 := Lib.hid (Hb8.out.trans (hb9.mono Hb8.out.size))
            have d90 := (Hb9.out.cell (p := ⟨B, 0, none⟩) Hlt0.out.1).trans Hc01.out.1.1
            have d91 := (Hb9.out.cell (p := ⟨B, 0 + 1, none⟩) Hlt0.out.1).trans Hc01.out.1.2
            have d92 := (Hb9.out.cell (p := ⟨B + 1, 0, none⟩) Hlt0.out.2).trans Hc01.out.2
            have Hl9 := Lib.hid (Hr1.out.below Hb9.out (Nat.le_refl _))
            have hk9 : B + 1 < w9.heap.size := Nat.lt_of_lt_of_le Hlt0.out.2 Hb9.out.size
            clear hb9 d80 d81 d82 hk8
            go_wp2_with fail
            refine (HG.out.minus l A n cap s w9 Hn.out Hl9.out (by omega)).mono ?_
            rintro e w10 ⟨⟨A10, n10, cap10, rfl, hn10, hr10⟩, hb10⟩
            have Hn10 := Lib.hid hn10
            have Hr10 := Lib.hid hr10
            have hn10le : n10 ≤ 100 := by have := Hml.out; omega
            have Hb10 := Lib.hid (Hb9.out.trans (hb10.mono Hb9.out.size))
            have d100 := (Hb10.out.cell (p := ⟨B, 0, none⟩) Hlt0.out.1).trans Hc01.out.1.1
            have d101 := (Hb10.out.cell (p := ⟨B, 0 + 1, none⟩) Hlt0.out.1).trans Hc01.out.1.2
            have d102 := (Hb10.out.cell (p := ⟨B + 1, 0, none⟩) Hlt0.out.2).trans Hc01.out.2
            have Hl10 := Lib.hid (Hr1.out.below Hb10.out (Nat.le_refl _))
            have hk10 : B + 1 < w10.heap.size := Nat.lt_of_lt_of_le Hlt0.out.2 Hb10.out.size
            clear hb10 d90 d91 d92 hk9
            clear hn10 hr10
            go_wp2_with fail
            refine (in_any HG.out (minusL l s) A10 n10 cap10 k (B + 1) w10 Hn10.out Hr10.out (by omega) hk10 d102).mono ?_
            rw [Hma.out]
            rintro e w11 ⟨rfl, hb11⟩
            have Hb11 := Lib.hid (Hb10.out.trans (hb11.mono Hb10.out.size))
            have d110 := (Hb11.out.cell (p := ⟨B, 0, none⟩) Hlt0.out.1).trans Hc01.out.1.1
            have d111 := (Hb11.out.cell (p := ⟨B, 0 + 1, none⟩) Hlt0.out.1).trans Hc01.out.1.2
            have d112 := (Hb11.out.cell (p := ⟨B + 1, 0, none⟩) Hlt0.out.2).trans Hc01.out.2
            have Hl11 := Lib.hid (Hr1.out.below Hb11.out (Nat.le_refl _))
            have hk11 : B + 1 < w11.heap.size := Nat.lt_of_lt_of_le Hlt0.out.2 Hb11.out.size
            clear hb11 d100 d101 d102 hk10
            go_wp2_with fail
            refine (in_any HG.out l A n cap k (B + 1) w11 Hn.out Hl11.out (by omega) hk11 d112).mono ?_
            rw [Ha.out]
            rintro e w12 ⟨rfl, hb12⟩
            have Hb12 := Lib.hid (Hb11.out.trans (hb12.mono Hb11.out.size))
            have d120 := (Hb12.out.cell (p := ⟨B, 0, none⟩) Hlt0.out.1).trans Hc01.out.1.1
            have d121 := (Hb12.out.cell (p := ⟨B, 0 + 1, none⟩) Hlt0.out.1).trans Hc01.out.1.2
            have d122 := (Hb12.out.cell (p := ⟨B + 1, 0, none⟩) Hlt0.out.2).trans Hc01.out.2
            have Hl12 := Lib.hid (Hr1.out.below Hb12.out (Nat.le_refl _))
            have hk12 : B + 1 < w12.heap.size := Nat.lt_of_lt_of_le Hlt0.out.2 Hb12.out.size
            clear hb12 d110 d111 d112 hk11
            go_wp2
            go_ret
            exact ⟨rfl, by rw [hB]; exact Hb1.out.trans (Hb12.out.mono HB1.out)⟩
          | true =>
            go_wp2_with fail
            refine (HV.out wc).mono ?_
            rintro e w5 ⟨rfl, hb5⟩
            have Hb5 := Lib.hid (Hb4.out.trans (hb5.mono Hb4.out.size))
            have d50 := (Hb5.out.cell (p := ⟨B, 0, none⟩) Hlt0.out.1).trans Hc01.out.1.1
            have d51 := (Hb5.out.cell (p := ⟨B, 0 + 1, none⟩) Hlt0.out.1).trans Hc01.out.1.2
            have d52 := (Hb5.out.cell (p := ⟨B + 1, 0, none⟩) Hlt0.out.2).trans Hc01.out.2
            have Hl5 := Lib.hid (Hr1.out.below Hb5.out (Nat.le_refl _))
            have hk5 : B + 1 < w5.heap.size := Nat.lt_of_lt_of_le Hlt0.out.2 Hb5.out.size
            clear hb5 d40 d41 d42 hk4
            go_wp2_with fail
            refine (HH.out w5).mono ?_
            rintro e w6 ⟨rfl, hb6⟩
            have Hb6 := Lib.hid (Hb5.out.trans (hb6.mono Hb5.out.size))
            have d60 := (Hb6.out.cell (p := ⟨B, 0, none⟩) Hlt0.out.1).trans Hc01.out.1.1
            have d61 := (Hb6.out.cell (p := ⟨B, 0 + 1, none⟩) Hlt0.out.1).trans Hc01.out.1.2
            have d62 := (Hb6.out.cell (p := ⟨B + 1, 0, none⟩) Hlt0.out.2).trans Hc01.out.2
            have Hl6 := Lib.hid (Hr1.out.below Hb6.out (Nat.le_refl _))
            have hk6 : B + 1 < w6.heap.size := Nat.lt_of_lt_of_le Hlt0.out.2 Hb6.out.size
            clear hb6 d50 d51 d52 hk5
            go_wp2_with fail
            refine (HG.out.union l A n cap w6 Hn.out Hl6.out (by omega)).mono ?_
            rintro e w7 ⟨⟨A7, n7, cap7, rfl, hn7, hr7⟩, hb7⟩
            have Hn7 := Lib.hid hn7
            have Hr7 := Lib.hid hr7
            have hn7le : n7 ≤ 100 := by have := Hul.out; omega
            have Hb7 := Lib.hid (Hb6.out.trans (hb7.mono Hb6.out.size))
            have d70 := (Hb7.out.cell (p := ⟨B, 0, none⟩) Hlt0.out.1).trans Hc01.out.1.1
            have d71 := (Hb7.out.cell (p := ⟨B, 0 + 1, none⟩) Hlt0.out.1).trans Hc01.out.1.2
            have d72 := (Hb7.out.cell (p := ⟨B + 1, 0, none⟩) Hlt0.out.2).trans Hc01.out.2
            have Hl7 := Lib.hid (Hr1.out.below Hb7.out (Nat.le_refl _))
            have hk7 : B + 1 < w7.heap.size := Nat.lt_of_lt_of_le Hlt0.out.2 Hb7.out.size
            clear hb7 d60 d61 d62 hk6
            clear hn7 hr7
            go_wp2_with fail
            refine (in_any HG.out (unionL l) A7 n7 cap7 k (B + 1) w7 Hn7.out Hr7.out (by omega) hk7 d72).mono ?_
            rw [Hua.out]
            rintro e w8 ⟨rfl, hb8⟩
            have Hb8 := Lib.hid (Hb7.out.trans (hb8.mono Hb7.out.size))
            have d80 := (Hb8.out.cell (p := ⟨B, 0, none⟩) Hlt0.out.1).trans Hc01.out.1.1
            have d81 := (Hb8.out.cell (p := ⟨B, 0 + 1, none⟩) Hlt0.out.1).trans Hc01.out.1.2
            have d82 := (Hb8.out.cell (p := ⟨B + 1, 0, none⟩) Hlt0.out.2).trans Hc01.out.2
            have Hl8 := Lib.hid (Hr1.out.below Hb8.out (Nat.le_refl _))
            have hk8 : B + 1 < w8.heap.size := Nat.lt_of_lt_of_le Hlt0.out.2 Hb8.out.size
            clear hb8 d70 d71 d72 hk7
            go_wp2_with fail
            refine (in_any HG.out l A n cap k (B + 1) w8 Hn.out Hl8.out (by omega) hk8 d82).mono ?_
            rw [Ha.out]
            rintro e w9 ⟨rfl, hb9⟩
            have Hb9 := Lib.hid (Hb8.out.trans (hb9.mono Hb8.out.size))
            have d90 := (Hb9.out.cell (p := ⟨B, 0, none⟩) Hlt0.out.1).trans Hc01.out.1.1
            have d91 := (Hb9.out.cell (p := ⟨B, 0 + 1, none⟩) Hlt0.out.1).trans Hc01.out.1.2
            have d92 := (Hb9.out.cell (p := ⟨B + 1, 0, none⟩) Hlt0.out.2).trans Hc01.out.2
            have Hl9 := Lib.hid (Hr1.out.below Hb9.out (Nat.le_refl _))
            have hk9 : B + 1 < w9.heap.size := Nat.lt_of_lt_of_le Hlt0.out.2 Hb9.out.size
            clear hb9 d80 d81 d82 hk8
            go_wp2_with fail
            refine (HG.out.minus l A n cap s w9 Hn.out Hl9.out (by omega)).mono ?_
            rintro e w10 ⟨⟨A10, n10, cap10, rfl, hn10, hr10⟩, hb10⟩
            have Hn10 := Lib.hid hn10
            have Hr10 := Lib.hid hr10
            have hn10le : n10 ≤ 100 := by have := Hml.out; omega
            have Hb10 := Lib.hid (Hb9.out.trans (hb10.mono Hb9.out.size))
            have d100 := (Hb10.out.cell (p := ⟨B, 0, none⟩) Hlt0.out.1).trans Hc01.out.1.1
            have d101 := (Hb10.out.cell (p := ⟨B, 0 + 1, none⟩) Hlt0.out.1).trans Hc01.out.1.2
            have d102 := (Hb10.out.cell (p := ⟨B + 1, 0, none⟩) Hlt0.out.2).trans Hc01.out.2
            have Hl10 := Lib.hid (Hr1.out.below Hb10.out (Nat.le_refl _))
            have hk10 : B + 1 < w10.heap.size := Nat.lt_of_lt_of_le Hlt0.out.2 Hb10.out.size
            clear hb10 d90 d91 d92 hk9
            clear hn10 hr10
            go_wp2_with fail
            refine (in_any HG.out (minusL l s) A10 n10 cap10 k (B + 1) w10 Hn10.out Hr10.out (by omega) hk10 d102).mono ?_
            rw [Hma.out]
            rintro e w11 ⟨rfl, hb11⟩
            have Hb11 := Lib.hid (Hb10.out.trans (hb11.mono Hb10.out.size))
            have d110 := (Hb11.out.cell (p := ⟨B, 0, none⟩) Hlt0.out.1).trans Hc01.out.1.1
            have d111 := (Hb11.out.cell (p := ⟨B, 0 + 1, none⟩) Hlt0.out.1).trans Hc01.out.1.2
            have d112 := (Hb11.out.cell (p := ⟨B + 1, 0, none⟩) Hlt0.out.2).trans Hc01.out.2
            have Hl11 := Lib.hid (Hr1.out.below Hb11.out (Nat.le_refl _))
            have hk11 : B + 1 < w11.heap.size := Nat.lt_of_lt_of_le Hlt0.out.2 Hb11.out.size
            clear hb11 d100 d101 d102 hk10
            go_wp2_with fail
            refine (in_any HG.out l A n cap k (B + 1) w11 Hn.out Hl11.out (by omega) hk11 d112).mono ?_
            rw [Ha.out]
            rintro e w12 ⟨rfl, hb12⟩
            have Hb12 := Lib.hid (Hb11.out.trans (hb12.mono Hb11.out.size))
            have d120 := (Hb12.out.cell (p := ⟨B, 0, none⟩) Hlt0.out.1).trans Hc01.out.1.1
            have d121 := (Hb12.out.cell (p := ⟨B, 0 + 1, none⟩) Hlt0.out.1).trans Hc01.out.1.2
            have d122 := (Hb12.out.cell (p := ⟨B + 1, 0, none⟩) Hlt0.out.2).trans Hc01.out.2
            have Hl12 := Lib.hid (Hr1.out.below Hb12.out (Nat.le_refl _))
            have hk12 : B + 1 < w12.heap.size := Nat.lt_of_lt_of_le Hlt0.out.2 Hb12.out.size
            clear hb12 d110 d111 d112 hk11
            go_wp2
            go_ret
            exact ⟨rfl, by rw [hB]; exact Hb1.out.trans (Hb12.out.mono HB1.out)⟩
  · have Hsm := Lib.hid hsm
    clear hsm
    go_wp2_with fail
    go_region_held3 (fun w' => (w'.cell? ⟨B, 0, none⟩ = some (.string (bs s.1)) ∧ w'.cell? ⟨B, 0 + 1, none⟩ = some (.string (bs s.2))) ∧ w'.cell? ⟨B + 1, 0, none⟩ = some (.string (bs k)))
      (first
        | exact Hc01.out
        | exact ⟨⟨(Hb4.out.cell (p := ⟨B, 0, none⟩) Hlt0.out.1).trans Hc01.out.1.1, (Hb4.out.cell (p := ⟨B, 0 + 1, none⟩) Hlt0.out.1).trans Hc01.out.1.2⟩, (Hb4.out.cell (p := ⟨B + 1, 0, none⟩) Hlt0.out.2).trans Hc01.out.2⟩
        | exact ⟨⟨(Hb3.out.cell (p := ⟨B, 0, none⟩) Hlt0.out.1).trans Hc01.out.1.1, (Hb3.out.cell (p := ⟨B, 0 + 1, none⟩) Hlt0.out.1).trans Hc01.out.1.2⟩, (Hb3.out.cell (p := ⟨B + 1, 0, none⟩) Hlt0.out.2).trans Hc01.out.2⟩
        | exact ⟨⟨((Hb3.out.alloc Hb3.out.size _).cell (p := ⟨B, 0, none⟩) Hlt0.out.1).trans Hc01.out.1.1, ((Hb3.out.alloc Hb3.out.size _).cell (p := ⟨B, 0 + 1, none⟩) Hlt0.out.1).trans Hc01.out.1.2⟩, ((Hb3.out.alloc Hb3.out.size _).cell (p := ⟨B + 1, 0, none⟩) Hlt0.out.2).trans Hc01.out.2⟩
        | exact ⟨⟨(((Below.refl w1.heap.size w1).alloc (Nat.le_refl _) _).drew.cell (p := ⟨B, 0, none⟩) Hlt0.out.1).trans Hc01.out.1.1, (((Below.refl w1.heap.size w1).alloc (Nat.le_refl _) _).drew.cell (p := ⟨B, 0 + 1, none⟩) Hlt0.out.1).trans Hc01.out.1.2⟩, (((Below.refl w1.heap.size w1).alloc (Nat.le_refl _) _).drew.cell (p := ⟨B + 1, 0, none⟩) Hlt0.out.2).trans Hc01.out.2⟩
        | exact ⟨⟨((((Below.refl w1.heap.size w1).alloc (Nat.le_refl _) _).alloc (by first | (simp; done) | (simp; omega)) _).drew.cell (p := ⟨B, 0, none⟩) Hlt0.out.1).trans Hc01.out.1.1, ((((Below.refl w1.heap.size w1).alloc (Nat.le_refl _) _).alloc (by first | (simp; done) | (simp; omega)) _).drew.cell (p := ⟨B, 0 + 1, none⟩) Hlt0.out.1).trans Hc01.out.1.2⟩, ((((Below.refl w1.heap.size w1).alloc (Nat.le_refl _) _).alloc (by first | (simp; done) | (simp; omega)) _).drew.cell (p := ⟨B + 1, 0, none⟩) Hlt0.out.2).trans Hc01.out.2⟩
        | exact ⟨⟨(((Below.refl w1.heap.size w1).alloc (Nat.le_refl _) _).cell (p := ⟨B, 0, none⟩) Hlt0.out.1).trans Hc01.out.1.1, (((Below.refl w1.heap.size w1).alloc (Nat.le_refl _) _).cell (p := ⟨B, 0 + 1, none⟩) Hlt0.out.1).trans Hc01.out.1.2⟩, (((Below.refl w1.heap.size w1).alloc (Nat.le_refl _) _).cell (p := ⟨B + 1, 0, none⟩) Hlt0.out.2).trans Hc01.out.2⟩
        | exact ⟨⟨((((Below.refl w1.heap.size w1).alloc (Nat.le_refl _) _).alloc (by first | (simp; done) | (simp; omega)) _).cell (p := ⟨B, 0, none⟩) Hlt0.out.1).trans Hc01.out.1.1, ((((Below.refl w1.heap.size w1).alloc (Nat.le_refl _) _).alloc (by first | (simp; done) | (simp; omega)) _).cell (p := ⟨B, 0 + 1, none⟩) Hlt0.out.1).trans Hc01.out.1.2⟩, ((((Below.refl w1.heap.size w1).alloc (Nat.le_refl _) _).alloc (by first | (simp; done) | (simp; omega)) _).cell (p := ⟨B + 1, 0, none⟩) Hlt0.out.2).trans Hc01.out.2⟩
        | go_keep)
      (first
        | (go_at_call 11; refine (great_yes (s :: l) [k] (some ⟨g3, 0, none⟩) _ (1 + n) 1 cap3 1 _ Hn1.out rfl (by first | exact Hw3.out | exact Hw3.out.below ((Below.refl _ _).alloc (Nat.le_refl _) _) (Nat.le_refl _)) (by first | exact row_new _ _ _ | exact row_kept (row_new2 _ _ _ _) (Hk3.out _ (by first | (simp; done) | (simp; omega)) (by first | (simp; done) | omega)) | exact row_kept (row_new _ _ _) ((Hk3.out _ (by first | (simp; done) | (simp; omega)) (by first | (simp; done) | (simp; omega) | omega)).trans (Lib.alloc_old _ _ _ (by first | (simp; done) | (simp; omega))))) (by omega) Hsm.out).mono ?_; rintro e w4 ⟨rfl, hb4⟩; have Hb4 : Hid (Below w1.heap.size w1 w4) := Lib.hid (by first | exact Hb3.out.trans (hb4.mono Hb3.out.size) | exact (Hb3.out.alloc Hb3.out.size _).trans (hb4.mono (Hb3.out.alloc Hb3.out.size _).size)); clear hb4 Hb3 Hw3 Hk3)
        | (refine step_behind (by rfl) _ _ _ (by rfl) w1.heap.size 23 i0 _ 2 32 Try.underlying26 hi0 hz0 hz1 hz2 rfl (by omega) (by omega) _ 1 1 (by omega) [.string (bs s.1), .string (bs s.2)] (by rfl) (by first | exact own_drew (own_one _ _ rfl) | exact own_drew (own_alloc (own_one _ _ rfl) _) | exact own_drew (own_one2 _ _ _ rfl)) A n cap (spC l) (by rfl) (Hr1.out.below (B := w1.heap.size) (by first | exact ((Below.refl w1.heap.size w1).alloc (Nat.le_refl _) _).drew | exact (((Below.refl w1.heap.size w1).alloc (Nat.le_refl _) _).alloc (by first | (simp; done) | (simp; omega)) _).drew) (Nat.le_refl _)) Hsl.out (spC_one l) (by omega) w1 (by first | exact ((Below.refl w1.heap.size w1).alloc (Nat.le_refl _) _).drew | exact (((Below.refl w1.heap.size w1).alloc (Nat.le_refl _) _).alloc (by first | (simp; done) | (simp; omega)) _).drew) (by first | (simp; done) | (simp; omega)) ?_; intro g3 cap3 w3 hown3 hb3 hk3; have Hk3 := Lib.hid hk3; have Hb3 := Lib.hid hb3; have Hw3 : Hid (RowAt w3 (some ⟨g3, 0, none⟩) (spC (s :: l))) := Lib.hid (own_row' hown3); clear hown3 hb3 hk3))
    all_goals
      go_wp2
      go_ret
      exact ⟨rfl, by rw [hB]; exact Hb1.out.trans (Hb4.out.mono HB1.out)⟩
end Go.Proofs.Ytfjgikcbngfhmaa
