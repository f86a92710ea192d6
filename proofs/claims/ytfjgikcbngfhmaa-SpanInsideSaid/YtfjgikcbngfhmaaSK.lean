/-
  The contract of the reference's Minus.
-/
import Derived.Test.YtfjgikcbngfhmaaSJ
namespace Go.Proofs.Ytfjgikcbngfhmaa
open Go.RowKit
set_option linter.unusedSimpArgs false

/-- A wanted operation of a region that draws, taken first; its slot is named. -/
theorem take_want {P : Program} {ops : Array Oper} {Q : Exit → Act → World → Prop} {md : Region.Mode} {S : World → Prop} (i : Nat) {oi : Oper} {d : Tmp} (v : Value) {fuel : Nat} {listed : Array Bool} {a : Act} {w : World} (hi : ops[i]? = some oi) (hd : oi.dst = some d)
    (hs : Region.noSelect ops = true) (hf : Region.free md ops listed i = true) (hr : (Region.ready md ops listed).contains i = true)
    (hQ : ∀ c a w, Q (.panic c) (a.put (some d) v) w → Q (.panic c) a w) (hw : Region.wanted oi (yielded ops a.tmps) = true) (hS : S w) (hy : ∀ w, S w → (execOp a.eval oi).run P w = .ok (.value v) w)
    (h : wpAnyH P md ops Q S fuel (listed.setIfInBounds i true) (a.put (some d) v) w) : wpAnyH P md ops Q S (fuel + 1) listed a w :=
  wpAnyH_take hi hs hf hr (by rw [hd]; exact hQ) (Or.inl ⟨hw, hy⟩) hS (by rw [hd]; exact h)
/-- An operation whose guard says no, passed over. -/
theorem take_skip {P : Program} {ops : Array Oper} {Q : Exit → Act → World → Prop} {md : Region.Mode} {S : World → Prop} (i : Nat) {oi : Oper} {d : Tmp} {fuel : Nat} {listed : Array Bool} {a : Act} {w : World} (hi : ops[i]? = some oi) (hd : oi.dst = some d)
    (hs : Region.noSelect ops = true) (hf : Region.free md ops listed i = true) (hr : (Region.ready md ops listed).contains i = true)
    (hQ : ∀ c a w, Q (.panic c) (a.put (some d) undef) w → Q (.panic c) a w) (hw : Region.wanted oi (yielded ops a.tmps) = false) (hS : S w)
    (h : wpAnyH P md ops Q S fuel (listed.setIfInBounds i true) (a.put (some d) undef) w) : wpAnyH P md ops Q S (fuel + 1) listed a w :=
  wpAnyH_take hi hs hf hr (by rw [hd]; exact hQ) (Or.inr ⟨hw, rfl⟩) hS (by rw [hd]; exact h)

set_option maxRecDepth 100000 in
set_option maxHeartbeats 8000000 in
theorem refminus_any (l : List Sp) (A : Option Addr) (n cap : Nat) (s : Sp) (w : World) (hn : l.length = n) (hr : RowAt w A (spC l)) (hn2 : n ≤ 99999) :
    Calls Try.prog 25 #[.slice A n cap, spV s] w fun e w' => ∃ v, e = .returned v ∧ OwnS w' w.heap.size v (minusL l s) ∧ (minusL l s).length ≤ 1 + 2 * (n + 1) ∧ Below w.heap.size w w' := by
  obtain ⟨i0, hi0, hz0, hz1, hz2⟩ := info_parts infoS
  obtain ⟨j0, hj0, hy0, hy1, hy2⟩ := info_parts infoF
  unfold spV at *
  have Hn := Lib.hid hn
  have Hc : Hid (minusL l s = madeL none ((endsL (l ++ [s])).map fun e => (e, anyL l e && !(goneL s e)))) := Lib.hid rfl
  have Hl1 : Hid ((l ++ [s]).length = n + 1) := Lib.hid (by rw [List.length_append, hn]; rfl)
  have Hsp : Hid (spC l ++ [.string (bs s.1), .string (bs s.2)] = spC (l ++ [s])) := Lib.hid (by rw [spC_append]; rfl)
  have Hsl : Hid ((spC l).length = n * 2) := Lib.hid (by rw [spC_length, hn])
  obtain ⟨w1, hw1⟩ : ∃ w1, w1 = w.alloc (.cells #[.string (bs s.1), .string (bs s.2)] 23) := ⟨_, rfl⟩
  have Hb1 : Hid (Below w.heap.size w w1) := Lib.hid (by rw [hw1]; exact (Below.refl _ _).alloc (Nat.le_refl _) _)
  have Hrow1 : Hid (RowAt w1 A (spC l)) := Lib.hid (hr.below Hb1.out (Nat.le_refl _))
  have Hbox : Hid (RowAt w1 (some ⟨w.heap.size, 0, none⟩) [.string (bs s.1), .string (bs s.2)]) := Lib.hid (by rw [hw1]; exact row_new _ _ _)
  clear hn hr
  go_enter Try.func25, Try.ntmps25
  go_wp2_with fail
  rw [← hw1]
  have cc : w.heap.size < w1.heap.size ∧ w1.cell? ⟨w.heap.size, 0, none⟩ = some (.string (bs s.1)) ∧ w1.cell? ⟨w.heap.size, 0 + 1, none⟩ = some (.string (bs s.2)) := by
    obtain ⟨b, off, e, hl, h0⟩ := Hbox.out 0 _ rfl
    obtain ⟨b', off', e', _, h1⟩ := Hbox.out 1 _ rfl
    injection e with e; injection e with e1 e2; subst e1; subst e2
    injection e' with e'; injection e' with e1 e2; subst e1; subst e2
    exact ⟨hl, h0, h1⟩
  obtain ⟨hlt0, c0, c1⟩ := cc
  have Hc01 := Lib.hid (And.intro c0 c1)
  have Hlt0 := Lib.hid hlt0
  clear hw1 hlt0
  generalize hB : w.heap.size = B at *
  go_cut [5] from 8 to 14 (fun ev wx => OwnT wx w1.heap.size ev (endsL (l ++ [s])) ∧ (endsL (l ++ [s])).length ≤ 1 + 2 * (n + 1) ∧ Below w1.heap.size w1 wx)
  case first =>
    go_region_held3 (fun w' => w'.cell? ⟨B, 0, none⟩ = some (.string (bs s.1)) ∧ w'.cell? ⟨B, 0 + 1, none⟩ = some (.string (bs s.2)))
      (first
        | exact ⟨c0, c1⟩
        | exact ⟨(hb6.out.cell (p := ⟨B, 0, none⟩) (Nat.lt_of_lt_of_le Hlt0.out hb5.out.size)).trans ((hb5.out.cell (p := ⟨B, 0, none⟩) Hlt0.out).trans Hc01.out.1), (hb6.out.cell (p := ⟨B, 0 + 1, none⟩) (Nat.lt_of_lt_of_le Hlt0.out hb5.out.size)).trans ((hb5.out.cell (p := ⟨B, 0 + 1, none⟩) Hlt0.out).trans Hc01.out.2)⟩
        | exact ⟨(hb5.out.cell (p := ⟨B, 0, none⟩) Hlt0.out).trans Hc01.out.1, (hb5.out.cell (p := ⟨B, 0 + 1, none⟩) Hlt0.out).trans Hc01.out.2⟩
        | exact ⟨(hb4.out.cell (p := ⟨B, 0, none⟩) Hlt0.out).trans Hc01.out.1, (hb4.out.cell (p := ⟨B, 0 + 1, none⟩) Hlt0.out).trans Hc01.out.2⟩
        | exact ⟨(((hb4.out.alloc hb4.out.size _)).cell (p := ⟨B, 0, none⟩) Hlt0.out).trans Hc01.out.1, (((hb4.out.alloc hb4.out.size _)).cell (p := ⟨B, 0 + 1, none⟩) Hlt0.out).trans Hc01.out.2⟩
        | exact ⟨(((Below.refl w1.heap.size w1).alloc (Nat.le_refl _) _).drew.cell (p := ⟨B, 0, none⟩) Hlt0.out).trans Hc01.out.1, (((Below.refl w1.heap.size w1).alloc (Nat.le_refl _) _).drew.cell (p := ⟨B, 0 + 1, none⟩) Hlt0.out).trans Hc01.out.2⟩
        | exact ⟨((((Below.refl w1.heap.size w1).alloc (Nat.le_refl _) _).alloc (by first | (simp; done) | (simp; omega)) _).drew.cell (p := ⟨B, 0, none⟩) Hlt0.out).trans Hc01.out.1, ((((Below.refl w1.heap.size w1).alloc (Nat.le_refl _) _).alloc (by first | (simp; done) | (simp; omega)) _).drew.cell (p := ⟨B, 0 + 1, none⟩) Hlt0.out).trans Hc01.out.2⟩
        | go_keep)
      (first
        | (go_at_call 29; refine (refends_any (l ++ [s]) (some ⟨g5, 0, none⟩) (n + 1) cap5 w5 Hl1.out (by rw [← Hsp.out]; exact own_row' hown5.out) (by omega)).mono ?_; rintro e w6 ⟨v6, rfl, ho6, hl6, hb6⟩; replace ho6 := Lib.hid ho6; replace hl6 := Lib.hid hl6; replace hb6 := Lib.hid hb6)
        | (refine step_push (by rfl) _ _ _ (by rfl) w1.heap.size 23 i0 _ 2 32 Try.underlying26 hi0 hz0 hz1 hz2 rfl (by omega) (.slice (some ⟨g4, 0, none⟩) n cap4) n (spC l) (by rfl) (by first | exact hown4.out | exact own_alloc hown4.out _) _ 1 [.string (bs s.1), .string (bs s.2)] (by rfl)
            (by first | exact row_new _ _ _ | exact row_kept (row_new2 _ _ _ _) (hk4.out _ (by first | (simp; done) | (simp; omega)) (by first | (simp; done) | omega)) | exact row_kept (row_new _ _ _) ((hk4.out _ (by first | (simp; done) | (simp; omega)) (by first | (simp; done) | omega)).trans (Lib.alloc_old _ _ _ (by first | (simp; done) | (simp; omega))))) rfl (by simp [Value.oneCell']) (by omega) (by omega) w1 (by first | exact hb4.out | exact hb4.out.alloc hb4.out.size _) (by first | exact hb4.out.size | exact Nat.le_trans hb4.out.size (by first | (simp; done) | (simp; omega))) ?_; intro g5 cap5 w5 hown5 hb5; replace hown5 := Lib.hid hown5; replace hb5 := Lib.hid hb5)
        | (refine step_append_row (by rfl) _ _ _ (by rfl) w1.heap.size 23 i0 _ 2 32 Try.underlying26 hi0 hz0 hz1 hz2 rfl (by omega) _ (by rfl) (by first | exact own_drew (own_none _ 23 2) | exact own_drew (own_alloc (own_none _ 23 2) _) | exact own_drew (own_none2 _ _ 23 2)) A n cap (spC l) (by rfl)
            (Hrow1.out.below (B := w1.heap.size) (by first | exact ((Below.refl _ _).alloc (Nat.le_refl _) _).drew | exact (((Below.refl _ _).alloc (Nat.le_refl _) _).alloc (by first | (simp; done) | (simp; omega)) _).drew) (Nat.le_refl _)) Hsl.out (spC_one l) (by omega) (by omega) w1 (by first | exact ((Below.refl _ _).alloc (Nat.le_refl _) _).drew | exact (((Below.refl _ _).alloc (Nat.le_refl _) _).alloc (by first | (simp; done) | (simp; omega)) _).drew) (by first | (simp; done) | (simp; omega)) ?_; intro g4 cap4 w4 hown4 hb4 hk4; replace hown4 := Lib.hid hown4; replace hb4 := Lib.hid hb4; replace hk4 := Lib.hid hk4))
    all_goals
      have Hb6 : Hid (Below w1.heap.size w1 w6) := Lib.hid (hb5.out.trans (hb6.out.mono hb5.out.size))
      have Ho6 : Hid (OwnT w6 w1.heap.size v6 (endsL (l ++ [s]))) := Lib.hid (own_base ho6.out hb5.out.size)
      clear hb6 hb5 hb4 hk4 hown4 hown5 ho6
      go_wp2_with fail
      go_meet
      exact ⟨Ho6.out, hl6.out, Hb6.out⟩
  case rest =>
    obtain ⟨ho, hl, hb⟩ := hcut
    obtain ⟨A1, cap1, rfl, hr1⟩ := own_row ho
    have Hr1 := Lib.hid hr1
    have HB : Hid (Below B w wc) := Lib.hid (Hb1.out.trans (hb.mono (by have := Hb1.out.size; omega)))
    have HrA : Hid (RowAt wc A (spC l)) := Lib.hid (Hrow1.out.below hb (Nat.le_refl _))
    have k0 := (hb.cell (p := ⟨B, 0, none⟩) Hlt0.out).trans Hc01.out.1
    have k1 := (hb.cell (p := ⟨B, 0 + 1, none⟩) Hlt0.out).trans Hc01.out.2
    have HBw : Hid (B < wc.heap.size) := Lib.hid (Nat.lt_of_lt_of_le Hlt0.out hb.size)
    have HK := Lib.hid (And.intro k0 k1)
    generalize endsL (l ++ [s]) = E at *
    obtain ⟨m, hm⟩ : ∃ m, m = E.length := ⟨_, rfl⟩
    rw [← hm] at hl
    (try rw [← hm])
    have Hm := Lib.hid hm
    have hml : m ≤ 400000 := by omega
    have Hlm := Lib.hid hl
    have Ho0 : Hid (OwnF (wc.alloc (.cells #[] 4)) wc.heap.size (.slice (some ⟨wc.heap.size, 0, none⟩) 0 0) []) := Lib.hid (own_none wc 4 1)
    clear ho hl hb hr1 hm k0 k1 Hb1 Hrow1 Hbox c0 c1 Hc01 Hlt0
    go_wp2_with fail
    go_loopw [6, 7] (fun hv iv wr => ∃ i : Nat, i ≤ m ∧ iv = .int .i64 i ∧ OwnF wr wc.heap.size hv ((E.take i).map fun e => anyL l e && !(goneL s e)) ∧ Below wc.heap.size wc wr) (fun _ iv _ => m - (intOf iv).toNat)
    case atStart => exact ⟨0, by omega, rfl, by rw [List.take_zero, List.map_nil]; exact Ho0.out, (Below.refl _ _).alloc (Nat.le_refl _) _⟩
    case round =>
      obtain ⟨i, hi, rfl, hown, hb⟩ := hrel
      have Hown := Lib.hid hown
      have Hb := Lib.hid hb
      clear hown hb Ho0
      by_cases hlt : i < m
      · have hlt' : (i : Int) < (m : Int) := by omega
        have hi0 : (0 : Int) ≤ (i : Int) := by omega
        obtain ⟨x, hx⟩ : ∃ x, E[i]? = some x := ⟨_, List.getElem?_eq_getElem (by rw [← Hm.out]; exact hlt)⟩
        obtain ⟨b, off, rfl, hbl, e0⟩ := row_str Hr1.out i x hx
        have d0 := (Hb.out.cell (p := ⟨b, off + i, none⟩) hbl).trans e0
        have d1 := (Hb.out.cell (p := ⟨B, 0, none⟩) HBw.out).trans HK.out.1
        have d2 := (Hb.out.cell (p := ⟨B, 0 + 1, none⟩) HBw.out).trans HK.out.2
        have hbw : b < wr.heap.size := Nat.lt_of_lt_of_le hbl Hb.out.size
        have hBw : B < wr.heap.size := Nat.lt_of_lt_of_le HBw.out Hb.out.size
        have Hbw := Lib.hid hbw
        have HBw2 := Lib.hid hBw
        have Htk : Hid ((E.take (i + 1)).map (fun e => anyL l e && !(goneL s e)) = (E.take i).map (fun e => anyL l e && !(goneL s e)) ++ [anyL l x && !(validL s && hasL s x)]) := Lib.hid (by rw [take_more E i x hx, List.map_append]; rfl)
        have Hl : Hid (((E.take i).map fun e => anyL l e && !(goneL s e)).length = i) := Lib.hid (by rw [List.length_map, List.length_take, ← Hm.out]; omega)
        have Hany := Lib.hid (fun W (h : Below wc.heap.size wc W) => refany_any l A n cap x W Hn.out (HrA.out.below h (Nat.le_refl _)) (by omega))
        have Hval := Lib.hid (refvalid_any s)
        have Hhas := Lib.hid (refhas_any s x)
        unfold spV at Hval Hhas
        obtain ⟨hs, hhs⟩ : ∃ hs, hs = (E.take i).map (fun e => anyL l e && !(goneL s e)) := ⟨_, rfl⟩
        rw [← hhs] at Htk Hl Hown
        have Hown1 : Hid (wr.ownsRow wc.heap.size 4 1 u6 i (boolC hs)) := Lib.hid (by have := Hown.out; unfold OwnF at this; rw [Hl.out] at this; exact this)
        have He0 := Lib.hid (And.intro hbl e0)
        clear e0 hx hhs Hown
        cases ha : anyL l x with
        | false =>
          rw [ha] at Hany Htk
          rw [Bool.false_and] at Htk
          go_wp2_with fail
          refine wp_region_noPanic ?_
          refine wp_region_held_drew (S := (fun w' => w'.cell? ⟨b, off + i, none⟩ = some (.string (bs x)) ∧ w'.cell? ⟨B, 0, none⟩ = some (.string (bs s.1)) ∧ w'.cell? ⟨B, 0 + 1, none⟩ = some (.string (bs s.2)))) (by kernel_rfl) ⟨d0, d1, d2⟩ (fun hHeld => ?_)
          refine take_want 0 (u6) rfl rfl (by kernel_rfl) (by kernel_rfl) (by kernel_rfl) (fun _ _ _ h => h) (by rfl) (by assumption) ?_ ?_
          · intro w hSw; (try dsimp only at hSw); go_simp
          (try simp only [Act.put, List.setIfInBounds_toArray, List.set_cons_zero, List.set_cons_succ])
          refine take_want 1 (.slice A n cap) rfl rfl (by kernel_rfl) (by kernel_rfl) (by kernel_rfl) (fun _ _ _ h => h) (by rfl) (by assumption) ?_ ?_
          · intro w hSw; (try dsimp only at hSw); go_simp
          (try simp only [Act.put, List.setIfInBounds_toArray, List.set_cons_zero, List.set_cons_succ])
          refine take_want 2 (.slice (some ⟨b, off, none⟩) m cap1) rfl rfl (by kernel_rfl) (by kernel_rfl) (by kernel_rfl) (fun _ _ _ h => h) (by rfl) (by assumption) ?_ ?_
          · intro w hSw; (try dsimp only at hSw); go_simp
          (try simp only [Act.put, List.setIfInBounds_toArray, List.set_cons_zero, List.set_cons_succ])
          refine take_want 3 (.int .i64 (i : Int)) rfl rfl (by kernel_rfl) (by kernel_rfl) (by kernel_rfl) (fun _ _ _ h => h) (by rfl) (by assumption) ?_ ?_
          · intro w hSw; (try dsimp only at hSw); go_simp
          (try simp only [Act.put, List.setIfInBounds_toArray, List.set_cons_zero, List.set_cons_succ])
          refine take_want 4 (.pointer (some ⟨b, off + i, none⟩)) rfl rfl (by kernel_rfl) (by kernel_rfl) (by kernel_rfl) (fun _ _ _ h => h) (by rfl) (by assumption) ?_ ?_
          · intro w hSw; (try dsimp only at hSw); go_simp
          (try simp only [Act.put, List.setIfInBounds_toArray, List.set_cons_zero, List.set_cons_succ])
          refine take_want 5 (.string (bs x)) rfl rfl (by kernel_rfl) (by kernel_rfl) (by kernel_rfl) (fun _ _ _ h => h) (by rfl) (by assumption) ?_ ?_
          · intro w hSw; (try dsimp only at hSw); go_simp
          (try simp only [Act.put, List.setIfInBounds_toArray, List.set_cons_zero, List.set_cons_succ])
          refine wpAnyH_ready (rs := [6]) (by kernel_rfl) (by simp) ?_
          refine AllReadyH.cons rfl (fun K hK => ?_) AllReadyH.nil
          go_simp
          go_wp2_with (go_at_call 30; refine (Hany.out wr.drew Hb.out.drew).mono ?_; rintro e w3 ⟨rfl, hb3⟩; replace hb3 := Lib.hid (show Below wr.heap.size wr w3 from (Below.refl _ _).drew.trans hb3))
          refine hK.out _ _ ⟨(hb3.out.cell (p := ⟨b, off + i, none⟩) Hbw.out).trans d0, (hb3.out.cell (p := ⟨B, 0, none⟩) HBw2.out).trans d1, (hb3.out.cell (p := ⟨B, 0 + 1, none⟩) HBw2.out).trans d2⟩ (fun hHeld => ?_)
          clear hK K
          (try simp only [Act.put, List.setIfInBounds_toArray, List.set_cons_zero, List.set_cons_succ])
          refine take_want 7 (.bool false) rfl rfl (by kernel_rfl) (by kernel_rfl) (by kernel_rfl) (fun _ _ _ h => h) (by rfl) (by assumption) ?_ ?_
          · intro w hSw; (try dsimp only at hSw); go_simp
          (try simp only [Act.put, List.setIfInBounds_toArray, List.set_cons_zero, List.set_cons_succ])
          refine take_skip 8 rfl rfl (by kernel_rfl) (by kernel_rfl) (by kernel_rfl) (fun _ _ _ h => h) (by rfl) (by assumption) ?_
          (try simp only [Act.put, List.setIfInBounds_toArray, List.set_cons_zero, List.set_cons_succ])
          refine take_skip 9 rfl rfl (by kernel_rfl) (by kernel_rfl) (by kernel_rfl) (fun _ _ _ h => h) (by rfl) (by assumption) ?_
          (try simp only [Act.put, List.setIfInBounds_toArray, List.set_cons_zero, List.set_cons_succ])
          refine take_skip 10 rfl rfl (by kernel_rfl) (by kernel_rfl) (by kernel_rfl) (fun _ _ _ h => h) (by rfl) (by assumption) ?_
          (try simp only [Act.put, List.setIfInBounds_toArray, List.set_cons_zero, List.set_cons_succ])
          refine take_skip 11 rfl rfl (by kernel_rfl) (by kernel_rfl) (by kernel_rfl) (fun _ _ _ h => h) (by rfl) (by assumption) ?_
          (try simp only [Act.put, List.setIfInBounds_toArray, List.set_cons_zero, List.set_cons_succ])
          refine take_skip 12 rfl rfl (by kernel_rfl) (by kernel_rfl) (by kernel_rfl) (fun _ _ _ h => h) (by rfl) (by assumption) ?_
          (try simp only [Act.put, List.setIfInBounds_toArray, List.set_cons_zero, List.set_cons_succ])
          refine take_skip 13 rfl rfl (by kernel_rfl) (by kernel_rfl) (by kernel_rfl) (fun _ _ _ h => h) (by rfl) (by assumption) ?_
          (try simp only [Act.put, List.setIfInBounds_toArray, List.set_cons_zero, List.set_cons_succ])
          refine take_skip 14 rfl rfl (by kernel_rfl) (by kernel_rfl) (by kernel_rfl) (fun _ _ _ h => h) (by rfl) (by assumption) ?_
          (try simp only [Act.put, List.setIfInBounds_toArray, List.set_cons_zero, List.set_cons_succ])
          refine take_skip 15 rfl rfl (by kernel_rfl) (by kernel_rfl) (by kernel_rfl) (fun _ _ _ h => h) (by rfl) (by assumption) ?_
          (try simp only [Act.put, List.setIfInBounds_toArray, List.set_cons_zero, List.set_cons_succ])
          refine take_skip 16 rfl rfl (by kernel_rfl) (by kernel_rfl) (by kernel_rfl) (fun _ _ _ h => h) (by rfl) (by assumption) ?_
          (try simp only [Act.put, List.setIfInBounds_toArray, List.set_cons_zero, List.set_cons_succ])
          refine take_skip 17 rfl rfl (by kernel_rfl) (by kernel_rfl) (by kernel_rfl) (fun _ _ _ h => h) (by rfl) (by assumption) ?_
          (try simp only [Act.put, List.setIfInBounds_toArray, List.set_cons_zero, List.set_cons_succ])
          refine take_skip 18 rfl rfl (by kernel_rfl) (by kernel_rfl) (by kernel_rfl) (fun _ _ _ h => h) (by rfl) (by assumption) ?_
          (try simp only [Act.put, List.setIfInBounds_toArray, List.set_cons_zero, List.set_cons_succ])
          refine take_want 19 (.bool false) rfl rfl (by kernel_rfl) (by kernel_rfl) (by kernel_rfl) (fun _ _ _ h => h) (by rfl) (by assumption) ?_ ?_
          · intro w hSw; (try dsimp only at hSw); go_simp
          (try simp only [Act.put, List.setIfInBounds_toArray, List.set_cons_zero, List.set_cons_succ])
          refine wpAnyH_ready (rs := [20]) (by kernel_rfl) (by simp) ?_
          refine AllReadyH.cons rfl (fun K hK => ?_) AllReadyH.nil
          go_simp
          refine hK.out _ _ ⟨((hb3.out.alloc hb3.out.size _).cell (p := ⟨b, off + i, none⟩) Hbw.out).trans d0, ((hb3.out.alloc hb3.out.size _).cell (p := ⟨B, 0, none⟩) HBw2.out).trans d1, ((hb3.out.alloc hb3.out.size _).cell (p := ⟨B, 0 + 1, none⟩) HBw2.out).trans d2⟩ (fun hHeld => ?_)
          clear hK K
          (try simp only [Act.put, List.setIfInBounds_toArray, List.set_cons_zero, List.set_cons_succ])
          refine wpAnyH_ready (rs := [21]) (by kernel_rfl) (by simp) ?_
          refine AllReadyH.cons rfl (fun K hK => ?_) AllReadyH.nil
          refine step_push (by rfl) _ _ _ (by rfl) wc.heap.size 4 j0 _ 1 1 Try.underlying46 hj0 hy0 hy1 hy2 rfl (by omega) u6 i (boolC hs) (by rfl) (own_alloc (own_below Hown1.out hb3.out) _) _ 1 [.bool false] (by rfl) (row_new _ _ _) rfl (by simp [Value.oneCell']) (by omega) (by omega) wc ((Hb.out.trans (hb3.out.mono Hb.out.size)).alloc (Nat.le_trans Hb.out.size hb3.out.size) _) (Nat.le_trans (Nat.le_trans Hb.out.size hb3.out.size) (by simp)) ?_
          intro g6 cap6 w6 hown6 hb6
          replace hown6 := Lib.hid hown6
          replace hb6 := Lib.hid hb6
          refine hK.out _ _ ⟨(hb6.out.cell (p := ⟨b, off + i, none⟩) He0.out.1).trans He0.out.2, (hb6.out.cell (p := ⟨B, 0, none⟩) HBw.out).trans HK.out.1, (hb6.out.cell (p := ⟨B, 0 + 1, none⟩) HBw.out).trans HK.out.2⟩ (fun hHeld => ?_)
          clear hK K
          (try simp only [Act.put, List.setIfInBounds_toArray, List.set_cons_zero, List.set_cons_succ])
          refine take_want 22 (.slice (some ⟨g6, 0, none⟩) (i + 1) cap6) rfl rfl (by kernel_rfl) (by kernel_rfl) (by kernel_rfl) (fun _ _ _ h => h) (by rfl) (by assumption) ?_ ?_
          · intro w hSw; (try dsimp only at hSw); go_simp
          (try simp only [Act.put, List.setIfInBounds_toArray, List.set_cons_zero, List.set_cons_succ])
          refine wpAnyH_done (by kernel_rfl) ?_ _
          refine NoPanic.normal ?_
          all_goals
            have Hown6 : Hid (OwnF w6 wc.heap.size (.slice (some ⟨g6, 0, none⟩) (i + 1) cap6) ((E.take (i + 1)).map fun e => anyL l e && !(goneL s e))) := Lib.hid (by
              rw [Htk.out]
              unfold OwnF
              rw [boolC_append, List.length_append, Hl.out]
              exact hown6.out)
            go_wp2
            go_roundw
            case rel => exact ⟨i + 1, by omega, by go_num, Hown6.out, hb6.out⟩
            case measure => simp [intOf]; omega
        | true =>
          rw [ha] at Hany Htk
          cases hv : validL s with
          | false =>
            rw [hv] at Hval Htk
            rw [Bool.false_and] at Htk
            go_wp2_with fail
            refine wp_region_noPanic ?_
            refine wp_region_held_drew (S := (fun w' => w'.cell? ⟨b, off + i, none⟩ = some (.string (bs x)) ∧ w'.cell? ⟨B, 0, none⟩ = some (.string (bs s.1)) ∧ w'.cell? ⟨B, 0 + 1, none⟩ = some (.string (bs s.2)))) (by kernel_rfl) ⟨d0, d1, d2⟩ (fun hHeld => ?_)
            refine take_want 0 (u6) rfl rfl (by kernel_rfl) (by kernel_rfl) (by kernel_rfl) (fun _ _ _ h => h) (by rfl) (by assumption) ?_ ?_
            · intro w hSw; (try dsimp only at hSw); go_simp
            (try simp only [Act.put, List.setIfInBounds_toArray, List.set_cons_zero, List.set_cons_succ])
            refine take_want 1 (.slice A n cap) rfl rfl (by kernel_rfl) (by kernel_rfl) (by kernel_rfl) (fun _ _ _ h => h) (by rfl) (by assumption) ?_ ?_
            · intro w hSw; (try dsimp only at hSw); go_simp
            (try simp only [Act.put, List.setIfInBounds_toArray, List.set_cons_zero, List.set_cons_succ])
            refine take_want 2 (.slice (some ⟨b, off, none⟩) m cap1) rfl rfl (by kernel_rfl) (by kernel_rfl) (by kernel_rfl) (fun _ _ _ h => h) (by rfl) (by assumption) ?_ ?_
            · intro w hSw; (try dsimp only at hSw); go_simp
            (try simp only [Act.put, List.setIfInBounds_toArray, List.set_cons_zero, List.set_cons_succ])
            refine take_want 3 (.int .i64 (i : Int)) rfl rfl (by kernel_rfl) (by kernel_rfl) (by kernel_rfl) (fun _ _ _ h => h) (by rfl) (by assumption) ?_ ?_
            · intro w hSw; (try dsimp only at hSw); go_simp
            (try simp only [Act.put, List.setIfInBounds_toArray, List.set_cons_zero, List.set_cons_succ])
            refine take_want 4 (.pointer (some ⟨b, off + i, none⟩)) rfl rfl (by kernel_rfl) (by kernel_rfl) (by kernel_rfl) (fun _ _ _ h => h) (by rfl) (by assumption) ?_ ?_
            · intro w hSw; (try dsimp only at hSw); go_simp
            (try simp only [Act.put, List.setIfInBounds_toArray, List.set_cons_zero, List.set_cons_succ])
            refine take_want 5 (.string (bs x)) rfl rfl (by kernel_rfl) (by kernel_rfl) (by kernel_rfl) (fun _ _ _ h => h) (by rfl) (by assumption) ?_ ?_
            · intro w hSw; (try dsimp only at hSw); go_simp
            (try simp only [Act.put, List.setIfInBounds_toArray, List.set_cons_zero, List.set_cons_succ])
            refine wpAnyH_ready (rs := [6]) (by kernel_rfl) (by simp) ?_
            refine AllReadyH.cons rfl (fun K hK => ?_) AllReadyH.nil
            go_simp
            go_wp2_with (go_at_call 30; refine (Hany.out wr.drew Hb.out.drew).mono ?_; rintro e w3 ⟨rfl, hb3⟩; replace hb3 := Lib.hid (show Below wr.heap.size wr w3 from (Below.refl _ _).drew.trans hb3))
            refine hK.out _ _ ⟨(hb3.out.cell (p := ⟨b, off + i, none⟩) Hbw.out).trans d0, (hb3.out.cell (p := ⟨B, 0, none⟩) HBw2.out).trans d1, (hb3.out.cell (p := ⟨B, 0 + 1, none⟩) HBw2.out).trans d2⟩ (fun hHeld => ?_)
            clear hK K
            (try simp only [Act.put, List.setIfInBounds_toArray, List.set_cons_zero, List.set_cons_succ])
            refine take_want 7 (.bool true) rfl rfl (by kernel_rfl) (by kernel_rfl) (by kernel_rfl) (fun _ _ _ h => h) (by rfl) (by assumption) ?_ ?_
            · intro w hSw; (try dsimp only at hSw); go_simp
            (try simp only [Act.put, List.setIfInBounds_toArray, List.set_cons_zero, List.set_cons_succ])
            refine take_want 8 (.agg #[.string (bs s.1), .string (bs s.2)]) rfl rfl (by kernel_rfl) (by kernel_rfl) (by kernel_rfl) (fun _ _ _ h => h) (by rfl) (by assumption) ?_ ?_
            · intro w hSw; (try dsimp only at hSw); go_simp
            (try simp only [Act.put, List.setIfInBounds_toArray, List.set_cons_zero, List.set_cons_succ])
            refine wpAnyH_ready (rs := [9]) (by kernel_rfl) (by simp) ?_
            refine AllReadyH.cons rfl (fun K hK => ?_) AllReadyH.nil
            go_simp
            go_wp2_with (go_at_call 13; refine (Hval.out w3).mono ?_; rintro e w4 ⟨rfl, hb4⟩; replace hb4 := Lib.hid (hb3.out.trans (hb4.mono hb3.out.size)))
            refine hK.out _ _ ⟨(hb4.out.cell (p := ⟨b, off + i, none⟩) Hbw.out).trans d0, (hb4.out.cell (p := ⟨B, 0, none⟩) HBw2.out).trans d1, (hb4.out.cell (p := ⟨B, 0 + 1, none⟩) HBw2.out).trans d2⟩ (fun hHeld => ?_)
            clear hK K
            (try simp only [Act.put, List.setIfInBounds_toArray, List.set_cons_zero, List.set_cons_succ])
            refine take_want 10 (.bool false) rfl rfl (by kernel_rfl) (by kernel_rfl) (by kernel_rfl) (fun _ _ _ h => h) (by rfl) (by assumption) ?_ ?_
            · intro w hSw; (try dsimp only at hSw); go_simp
            (try simp only [Act.put, List.setIfInBounds_toArray, List.set_cons_zero, List.set_cons_succ])
            refine take_skip 11 rfl rfl (by kernel_rfl) (by kernel_rfl) (by kernel_rfl) (fun _ _ _ h => h) (by rfl) (by assumption) ?_
            (try simp only [Act.put, List.setIfInBounds_toArray, List.set_cons_zero, List.set_cons_succ])
            refine take_skip 12 rfl rfl (by kernel_rfl) (by kernel_rfl) (by kernel_rfl) (fun _ _ _ h => h) (by rfl) (by assumption) ?_
            (try simp only [Act.put, List.setIfInBounds_toArray, List.set_cons_zero, List.set_cons_succ])
            refine take_skip 13 rfl rfl (by kernel_rfl) (by kernel_rfl) (by kernel_rfl) (fun _ _ _ h => h) (by rfl) (by assumption) ?_
            (try simp only [Act.put, List.setIfInBounds_toArray, List.set_cons_zero, List.set_cons_succ])
            refine take_skip 14 rfl rfl (by kernel_rfl) (by kernel_rfl) (by kernel_rfl) (fun _ _ _ h => h) (by rfl) (by assumption) ?_
            (try simp only [Act.put, List.setIfInBounds_toArray, List.set_cons_zero, List.set_cons_succ])
            refine take_skip 15 rfl rfl (by kernel_rfl) (by kernel_rfl) (by kernel_rfl) (fun _ _ _ h => h) (by rfl) (by assumption) ?_
            (try simp only [Act.put, List.setIfInBounds_toArray, List.set_cons_zero, List.set_cons_succ])
            refine take_skip 16 rfl rfl (by kernel_rfl) (by kernel_rfl) (by kernel_rfl) (fun _ _ _ h => h) (by rfl) (by assumption) ?_
            (try simp only [Act.put, List.setIfInBounds_toArray, List.set_cons_zero, List.set_cons_succ])
            refine take_want 17 (.bool false) rfl rfl (by kernel_rfl) (by kernel_rfl) (by kernel_rfl) (fun _ _ _ h => h) (by rfl) (by assumption) ?_ ?_
            · intro w hSw; (try dsimp only at hSw); go_simp
            (try simp only [Act.put, List.setIfInBounds_toArray, List.set_cons_zero, List.set_cons_succ])
            refine take_want 18 (.bool true) rfl rfl (by kernel_rfl) (by kernel_rfl) (by kernel_rfl) (fun _ _ _ h => h) (by rfl) (by assumption) ?_ ?_
            · intro w hSw; (try dsimp only at hSw); go_simp
            (try simp only [Act.put, List.setIfInBounds_toArray, List.set_cons_zero, List.set_cons_succ])
            refine take_want 19 (.bool true) rfl rfl (by kernel_rfl) (by kernel_rfl) (by kernel_rfl) (fun _ _ _ h => h) (by rfl) (by assumption) ?_ ?_
            · intro w hSw; (try dsimp only at hSw); go_simp
            (try simp only [Act.put, List.setIfInBounds_toArray, List.set_cons_zero, List.set_cons_succ])
            refine wpAnyH_ready (rs := [20]) (by kernel_rfl) (by simp) ?_
            refine AllReadyH.cons rfl (fun K hK => ?_) AllReadyH.nil
            go_simp
            refine hK.out _ _ ⟨((hb4.out.alloc hb4.out.size _).cell (p := ⟨b, off + i, none⟩) Hbw.out).trans d0, ((hb4.out.alloc hb4.out.size _).cell (p := ⟨B, 0, none⟩) HBw2.out).trans d1, ((hb4.out.alloc hb4.out.size _).cell (p := ⟨B, 0 + 1, none⟩) HBw2.out).trans d2⟩ (fun hHeld => ?_)
            clear hK K
            (try simp only [Act.put, List.setIfInBounds_toArray, List.set_cons_zero, List.set_cons_succ])
            refine wpAnyH_ready (rs := [21]) (by kernel_rfl) (by simp) ?_
            refine AllReadyH.cons rfl (fun K hK => ?_) AllReadyH.nil
            refine step_push (by rfl) _ _ _ (by rfl) wc.heap.size 4 j0 _ 1 1 Try.underlying46 hj0 hy0 hy1 hy2 rfl (by omega) u6 i (boolC hs) (by rfl) (own_alloc (own_below Hown1.out hb4.out) _) _ 1 [.bool true] (by rfl) (row_new _ _ _) rfl (by simp [Value.oneCell']) (by omega) (by omega) wc ((Hb.out.trans (hb4.out.mono Hb.out.size)).alloc (Nat.le_trans Hb.out.size hb4.out.size) _) (Nat.le_trans (Nat.le_trans Hb.out.size hb4.out.size) (by simp)) ?_
            intro g6 cap6 w6 hown6 hb6
            replace hown6 := Lib.hid hown6
            replace hb6 := Lib.hid hb6
            refine hK.out _ _ ⟨(hb6.out.cell (p := ⟨b, off + i, none⟩) He0.out.1).trans He0.out.2, (hb6.out.cell (p := ⟨B, 0, none⟩) HBw.out).trans HK.out.1, (hb6.out.cell (p := ⟨B, 0 + 1, none⟩) HBw.out).trans HK.out.2⟩ (fun hHeld => ?_)
            clear hK K
            (try simp only [Act.put, List.setIfInBounds_toArray, List.set_cons_zero, List.set_cons_succ])
            refine take_want 22 (.slice (some ⟨g6, 0, none⟩) (i + 1) cap6) rfl rfl (by kernel_rfl) (by kernel_rfl) (by kernel_rfl) (fun _ _ _ h => h) (by rfl) (by assumption) ?_ ?_
            · intro w hSw; (try dsimp only at hSw); go_simp
            (try simp only [Act.put, List.setIfInBounds_toArray, List.set_cons_zero, List.set_cons_succ])
            refine wpAnyH_done (by kernel_rfl) ?_ _
            refine NoPanic.normal ?_
            all_goals
              have Hown6 : Hid (OwnF w6 wc.heap.size (.slice (some ⟨g6, 0, none⟩) (i + 1) cap6) ((E.take (i + 1)).map fun e => anyL l e && !(goneL s e))) := Lib.hid (by
                rw [Htk.out]
                unfold OwnF
                rw [boolC_append, List.length_append, Hl.out]
                exact hown6.out)
              go_wp2
              go_roundw
              case rel => exact ⟨i + 1, by omega, by go_num, Hown6.out, hb6.out⟩
              case measure => simp [intOf]; omega
          | true =>
            rw [hv] at Hval Htk
            cases hh : hasL s x with
            | false =>
              rw [hh] at Hhas Htk
              go_wp2_with fail
              go_region_held3 (fun w' => w'.cell? ⟨b, off + i, none⟩ = some (.string (bs x)) ∧ w'.cell? ⟨B, 0, none⟩ = some (.string (bs s.1)) ∧ w'.cell? ⟨B, 0 + 1, none⟩ = some (.string (bs s.2)))
                (first
                  | exact ⟨d0, d1, d2⟩
                  | exact ⟨(hb6.out.cell (p := ⟨b, off + i, none⟩) He0.out.1).trans He0.out.2, (hb6.out.cell (p := ⟨B, 0, none⟩) HBw.out).trans HK.out.1, (hb6.out.cell (p := ⟨B, 0 + 1, none⟩) HBw.out).trans HK.out.2⟩
                  | exact ⟨(hb5.out.cell (p := ⟨b, off + i, none⟩) Hbw.out).trans d0, (hb5.out.cell (p := ⟨B, 0, none⟩) HBw2.out).trans d1, (hb5.out.cell (p := ⟨B, 0 + 1, none⟩) HBw2.out).trans d2⟩
                  | exact ⟨(hb4.out.cell (p := ⟨b, off + i, none⟩) Hbw.out).trans d0, (hb4.out.cell (p := ⟨B, 0, none⟩) HBw2.out).trans d1, (hb4.out.cell (p := ⟨B, 0 + 1, none⟩) HBw2.out).trans d2⟩
                  | exact ⟨(hb3.out.cell (p := ⟨b, off + i, none⟩) Hbw.out).trans d0, (hb3.out.cell (p := ⟨B, 0, none⟩) HBw2.out).trans d1, (hb3.out.cell (p := ⟨B, 0 + 1, none⟩) HBw2.out).trans d2⟩
                  | go_keep)
                (first
                  | (go_at_call 30; refine (Hany.out wr.drew Hb.out.drew).mono ?_; rintro e w3 ⟨rfl, hb3⟩; replace hb3 := Lib.hid (show Below wr.heap.size wr w3 from (Below.refl _ _).drew.trans hb3))
                  | (go_at_call 13; refine (Hval.out w3).mono ?_; rintro e w4 ⟨rfl, hb4⟩; replace hb4 := Lib.hid (hb3.out.trans (hb4.mono hb3.out.size)))
                  | (go_at_call 15; refine (Hhas.out w4).mono ?_; rintro e w5 ⟨rfl, hb5⟩; replace hb5 := Lib.hid (hb4.out.trans (hb5.mono hb4.out.size)))
                  | (refine step_push (by rfl) _ _ _ (by rfl) wc.heap.size 4 j0 _ 1 1 Try.underlying46 hj0 hy0 hy1 hy2 rfl (by omega) u6 i (boolC hs) (by rfl) (own_alloc (own_below Hown1.out hb5.out) _) _ 1 [.bool true] (by rfl) (row_new _ _ _) rfl (by simp [Value.oneCell']) (by omega) (by omega) wc ((Hb.out.trans (hb5.out.mono Hb.out.size)).alloc (Nat.le_trans Hb.out.size hb5.out.size) _) (Nat.le_trans (Nat.le_trans Hb.out.size hb5.out.size) (by simp)) ?_; intro g6 cap6 w6 hown6 hb6; replace hown6 := Lib.hid hown6; replace hb6 := Lib.hid hb6))
              all_goals
                have Hown6 : Hid (OwnF w6 wc.heap.size (.slice (some ⟨g6, 0, none⟩) (i + 1) cap6) ((E.take (i + 1)).map fun e => anyL l e && !(goneL s e))) := Lib.hid (by
                  rw [Htk.out]
                  unfold OwnF
                  rw [boolC_append, List.length_append, Hl.out]
                  exact hown6.out)
                go_wp2
                go_roundw
                case rel => exact ⟨i + 1, by omega, by go_num, Hown6.out, hb6.out⟩
                case measure => simp [intOf]; omega
            | true =>
              rw [hh] at Hhas Htk
              go_wp2_with fail
              go_region_held3 (fun w' => w'.cell? ⟨b, off + i, none⟩ = some (.string (bs x)) ∧ w'.cell? ⟨B, 0, none⟩ = some (.string (bs s.1)) ∧ w'.cell? ⟨B, 0 + 1, none⟩ = some (.string (bs s.2)))
                (first
                  | exact ⟨d0, d1, d2⟩
                  | exact ⟨(hb6.out.cell (p := ⟨b, off + i, none⟩) He0.out.1).trans He0.out.2, (hb6.out.cell (p := ⟨B, 0, none⟩) HBw.out).trans HK.out.1, (hb6.out.cell (p := ⟨B, 0 + 1, none⟩) HBw.out).trans HK.out.2⟩
                  | exact ⟨(hb5.out.cell (p := ⟨b, off + i, none⟩) Hbw.out).trans d0, (hb5.out.cell (p := ⟨B, 0, none⟩) HBw2.out).trans d1, (hb5.out.cell (p := ⟨B, 0 + 1, none⟩) HBw2.out).trans d2⟩
                  | exact ⟨(hb4.out.cell (p := ⟨b, off + i, none⟩) Hbw.out).trans d0, (hb4.out.cell (p := ⟨B, 0, none⟩) HBw2.out).trans d1, (hb4.out.cell (p := ⟨B, 0 + 1, none⟩) HBw2.out).trans d2⟩
                  | exact ⟨(hb3.out.cell (p := ⟨b, off + i, none⟩) Hbw.out).trans d0, (hb3.out.cell (p := ⟨B, 0, none⟩) HBw2.out).trans d1, (hb3.out.cell (p := ⟨B, 0 + 1, none⟩) HBw2.out).trans d2⟩
                  | go_keep)
                (first
                  | (go_at_call 30; refine (Hany.out wr.drew Hb.out.drew).mono ?_; rintro e w3 ⟨rfl, hb3⟩; replace hb3 := Lib.hid (show Below wr.heap.size wr w3 from (Below.refl _ _).drew.trans hb3))
                  | (go_at_call 13; refine (Hval.out w3).mono ?_; rintro e w4 ⟨rfl, hb4⟩; replace hb4 := Lib.hid (hb3.out.trans (hb4.mono hb3.out.size)))
                  | (go_at_call 15; refine (Hhas.out w4).mono ?_; rintro e w5 ⟨rfl, hb5⟩; replace hb5 := Lib.hid (hb4.out.trans (hb5.mono hb4.out.size)))
                  | (refine step_push (by rfl) _ _ _ (by rfl) wc.heap.size 4 j0 _ 1 1 Try.underlying46 hj0 hy0 hy1 hy2 rfl (by omega) u6 i (boolC hs) (by rfl) (own_alloc (own_below Hown1.out hb5.out) _) _ 1 [.bool false] (by rfl) (row_new _ _ _) rfl (by simp [Value.oneCell']) (by omega) (by omega) wc ((Hb.out.trans (hb5.out.mono Hb.out.size)).alloc (Nat.le_trans Hb.out.size hb5.out.size) _) (Nat.le_trans (Nat.le_trans Hb.out.size hb5.out.size) (by simp)) ?_; intro g6 cap6 w6 hown6 hb6; replace hown6 := Lib.hid hown6; replace hb6 := Lib.hid hb6))
              all_goals
                have Hown6 : Hid (OwnF w6 wc.heap.size (.slice (some ⟨g6, 0, none⟩) (i + 1) cap6) ((E.take (i + 1)).map fun e => anyL l e && !(goneL s e))) := Lib.hid (by
                  rw [Htk.out]
                  unfold OwnF
                  rw [boolC_append, List.length_append, Hl.out]
                  exact hown6.out)
                go_wp2
                go_roundw
                case rel => exact ⟨i + 1, by omega, by go_num, Hown6.out, hb6.out⟩
                case measure => simp [intOf]; omega
      · have hlt' : ¬ (i : Int) < (m : Int) := by omega
        have him : i = m := by omega
        have Hown1 : Hid (OwnF wr wc.heap.size u6 (E.map fun e => anyL l e && !(goneL s e))) := Lib.hid (by
          have := Hown.out
          rw [List.take_of_length_le (by rw [← Hm.out]; omega)] at this
          exact this)
        obtain ⟨A2, cap2, rfl, hr2⟩ := own_row Hown1.out
        have Hr2 := Lib.hid hr2
        have hlm : (E.map fun e => anyL l e && !(goneL s e)).length = m := by rw [List.length_map, ← Hm.out]
        have hmade := refmade_any (E.map fun e => (e, anyL l e && !(goneL s e))) A1 A2 m cap1 cap2 wr (by rw [List.length_map, ← Hm.out]) (by
            rw [List.map_map]
            rw [show ((fun x : List UInt8 × Bool => x.1) ∘ fun e => (e, anyL l e && !(goneL s e))) = id from rfl, List.map_id]
            exact Hr1.out.below Hb.out (Nat.le_refl _)) (by
            rw [List.map_map]
            exact Hr2.out) (by omega)
        rw [← Hc.out] at hmade
        have Hmade := Lib.hid hmade
        have HbB : Hid (Below B w wr) := Lib.hid (HB.out.trans (Hb.out.mono (by have := HB.out.size; omega)))
        clear hr2 hmade him Hown Hown1
        go_wp2_with (go_at_call 37; (try rw [hlm]); refine Hmade.out.mono ?_; rintro e w3 ⟨v3, rfl, ho3, hl3, hb3⟩; replace ho3 := Lib.hid ho3; replace hl3 := Lib.hid hl3; replace hb3 := Lib.hid hb3)
        go_ret
        have hle : B ≤ wr.heap.size := by have := HbB.out.size; omega
        exact ⟨_, rfl, (by first | exact own_base ho3.out hle | (rw [hB]; exact own_base ho3.out hle)), by have := hl3.out; have := Hlm.out; omega, (by first | exact HbB.out.trans (hb3.out.mono hle) | (rw [hB]; exact HbB.out.trans (hb3.out.mono hle)))⟩
end Go.Proofs.Ytfjgikcbngfhmaa
