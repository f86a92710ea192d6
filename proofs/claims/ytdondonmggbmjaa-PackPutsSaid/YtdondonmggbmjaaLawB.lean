/-
  The law PackBack walked.
-/
import Derived.Test.YtdondonmggbmjaaLawP
import Derived.Deep.RegionHeld3
namespace Go.Proofs.Ytdondonmggbmjaa
open Go.RowKit

/-- What the things' encodings make together. -/
def encAll (xs : List It) : List UInt8 := xs.flatMap encI
theorem wrAll_ok_aux : ∀ (xs : List It) (o0 o : List UInt8), (∀ x ∈ xs, x.k = 0 ∨ x.k = 1 ∨ x.k = 2) → xs.foldl (fun st x => wrI x st) (o0, 0) = (o, 0) → o = o0 ++ encAll xs ∧ ∀ x ∈ xs, ¬ badI x
  | [], o0, o, _, h => by
    have : o0 = o := by simpa using h
    subst this
    exact ⟨by simp [encAll], by simp⟩
  | x :: xs, o0, o, hk, h => by
    rw [List.foldl_cons] at h
    have stuck : ∀ (st : WSt), st.2 ≠ 0 → xs.foldl (fun st x => wrI x st) st ≠ (o, 0) := fun st hs e => by
      have key : ∀ (ys : List It), ys.foldl (fun st x => wrI x st) st = st := by
        intro ys
        induction ys with
        | nil => rfl
        | cons y ys ih => rw [List.foldl_cons, wrI_stuck y st hs]; exact ih
      rw [key xs] at e
      rw [e] at hs
      exact hs rfl
    by_cases hb : badI x
    · rw [wrI_bad x o0 hb] at h
      exact absurd h (stuck _ (by simp))
    · rw [wrI_enc x o0 (hk x (by simp)) hb] at h
      by_cases hl : 2097152 < o0.length + (encI x).length
      · rw [if_pos hl] at h
        exact absurd h (stuck _ (by simp))
      · rw [if_neg hl] at h
        obtain ⟨h1, h2⟩ := wrAll_ok_aux xs _ o (fun y hy => hk y (by simp [hy])) h
        refine ⟨by rw [h1, encAll, encAll, List.flatMap_cons, List.append_assoc], fun y hy => ?_⟩
        rcases List.mem_cons.1 hy with rfl | hy
        · exact hb
        · exact h2 y hy
theorem wrAll_ok (xs : List It) (o : List UInt8) (hk : ∀ x ∈ xs, x.k = 0 ∨ x.k = 1 ∨ x.k = 2) (h : wrAll xs = (o, 0)) : o = encAll xs ∧ ∀ x ∈ xs, ¬ badI x := by
  have := wrAll_ok_aux xs [] o hk h
  rw [List.nil_append] at this
  exact this
theorem encAll_drop (xs : List It) (i : Nat) (x : It) (h : xs[i]? = some x) : encAll (xs.drop i) = encI x ++ encAll (xs.drop (i + 1)) := by
  obtain ⟨hi, rfl⟩ := List.getElem?_eq_some_iff.1 h
  rw [List.drop_eq_getElem_cons hi, encAll, List.flatMap_cons]; rfl
theorem encAll_le (xs : List It) (i : Nat) : (encAll (xs.drop i)).length ≤ (encAll xs).length := by
  have : encAll xs = encAll (xs.take i) ++ encAll (xs.drop i) := by
    unfold encAll
    rw [← List.flatMap_append, List.take_append_drop]
  rw [this, List.length_append]; omega

/-- A thing that was put is read back. -/
theorem back_num (n : Nat) (h : n ≤ top) (m : Int) (hm : (n : Int) ≤ m) (r : List UInt8) : rdN m (encL n ++ r) false = (n, r, false) := by
  rw [rdN_some (decL_enc n h r) hm, List.drop_left]
theorem back_text (t r : List UInt8) (h : t.length ≤ 2097152) : rdT 2097152 (encL t.length ++ t ++ r) false = (t, r, false) := by
  unfold rdT
  rw [List.append_assoc, back_num t.length (by unfold top; omega) 2097152 (by omega)]
  rw [if_neg (by simp)]
  simp

structure BackAt (w1 : World) (ar : Nat) (l : List UInt8) (w : World) : Prop where
  rd : RdM 61 w ar l false
  below : Below ar w1 w

set_option maxRecDepth 100000 in
set_option maxHeartbeats 4000000 in
theorem back_any (xs : List It) (A : Option Addr) (n cap : Nat) (w : World) (hn : xs.length = n) (hr : IRow w A xs) (hok : ∀ x ∈ xs, x.ok) (hn2 : n ≤ 9223372036854775807) (hc : n ≤ cap) :
    Calls Try.prog 5 #[.slice A n cap] w (Laws w) := by
  have Hr := Lib.hid hr
  have Hok := Lib.hid (tameL_ok hok)
  have Hn := Lib.hid hn
  clear hr hok hn
  go_enter Try.func5, Try.ntmps5
  go_wp2_with fail
  refine (awake_any w).mono ?_
  rintro e w1 ⟨rfl, hb1⟩
  have Hr1 := Lib.hid (Hr.out.below hb1 (Nat.le_refl _))
  have Hb1 := Lib.hid hb1
  clear hb1 Hr
  go_wp2_with fail
  refine (tame_any xs A n cap w1 Hn.out Hr1.out hn2 hc).mono ?_
  rintro e w2 ⟨A', k, cap', rfl, hlen, hk, hr2, hb2⟩
  have Hlen := Lib.hid hlen
  have Hr2 := Lib.hid hr2
  have Hb2 := Lib.hid (Hb1.out.trans (hb2.mono Hb1.out.size))
  clear hlen hr2 hb2 Hr1
  generalize tameL xs = ys at *
  go_wp2_with fail
  refine (put_all ys A' k cap' w2 Hlen.out Hr2.out (fun x hx => (Hok.out x hx).1) (by omega)).mono ?_
  rintro e w3 ⟨rfl, hw3, hb3⟩
  have Hw3 := Lib.hid hw3
  have Hb3 := Lib.hid (Hb2.out.trans (hb3.mono Hb2.out.size))
  have Hr3 := Lib.hid (Hr2.out.below hb3 (Nat.le_refl _))
  clear hw3 hb3 Hr2
  go_wp2_with fail
  refine (wbytes_any _ _ _ Hw3.out).mono ?_
  rintro e w4 ⟨rfl, hw4, hb4⟩
  have Hb4 := Lib.hid (Hb3.out.trans (hb4.mono Hb3.out.size))
  have Hr4 := Lib.hid (Hr3.out.below hb4 (Nat.le_refl _))
  obtain ⟨p4, c4, _, _, _, hlen4⟩ := hw4
  have Hlen4 := Lib.hid hlen4
  clear hb4 Hr3 Hw3 hlen4
  generalize hst : wrAll ys = st at *
  obtain ⟨o, f⟩ := st
  simp only at *
  by_cases hf : f = 0
  · subst hf
    have Ho := Lib.hid (wrAll_ok ys o (fun x hx => (Hok.out x hx).2) hst)
    clear hst
    go_wp2_with fail
    refine (read_any (bs o) w4).mono ?_
    rintro e w5 ⟨rfl, hrd5, hb5, hsz5⟩
    rw [bl_bs, Ho.out.1] at hrd5
    have H5 : Hid (BackAt w4 w4.heap.size (encAll (ys.drop 0)) w5) := Lib.hid ⟨hrd5, hb5⟩
    have Hbl : Hid (∀ i, (encAll (ys.drop i)).length ≤ 2097152) := Lib.hid (fun i => Nat.le_trans (encAll_le ys i) (by rw [← Ho.out.1]; exact Hlen4.out))
    have Hgood := Lib.hid Ho.out.2
    have Hwar : Hid (w.heap.size ≤ w4.heap.size) := Lib.hid Hb4.out.size
    clear hrd5 hb5 hsz5 Hlen4 Ho
    go_wp2
    generalize har : w4.heap.size = ar at *
    have Hra := Lib.hid har
    clear har
    go_loopw [6, 7, 24] (fun _ _ iv wr => ∃ i : Nat, i ≤ k ∧ iv = .int .i64 i ∧ BackAt w4 ar (encAll (ys.drop i)) wr) (fun _ _ iv _ => k - (intOf iv).toNat)
    case atStart => exact ⟨0, by omega, rfl, H5.out⟩
    case round =>
      clear H5
      obtain ⟨i, hi, rfl, ho⟩ := hrel
      have Hback := Lib.hid ho
      clear ho
      have hbl := Hbl.out i
      by_cases hlt : i < k
      · obtain ⟨x, hx⟩ : ∃ x, ys[i]? = some x := ⟨_, List.getElem?_eq_getElem (by rw [Hlen.out]; exact hlt)⟩
        have Hsplit := Lib.hid (encAll_drop ys i x hx)
        have Hxok := Lib.hid (Hok.out x (List.mem_of_getElem? hx))
        have Hg := Lib.hid (Hgood.out x (List.mem_of_getElem? hx))
        obtain ⟨b, off, rfl, hb, c0, c1, c2, c3⟩ := Hr4.out i x hx
        rw [Hra.out] at hb
        have d0 := (Hback.out.below.cell (p := ⟨b, off + i * 4, none⟩) hb).trans c0
        have d1 := (Hback.out.below.cell (p := ⟨b, off + i * 4 + 1, none⟩) hb).trans c1
        have d2 := (Hback.out.below.cell (p := ⟨b, off + i * 4 + 2, none⟩) hb).trans c2
        have d3 := (Hback.out.below.cell (p := ⟨b, off + i * 4 + 3, none⟩) hb).trans c3
        clear c0 c1 c2 c3 hx
        have hi0 : (0 : Int) ≤ (i : Int) := by omega
        have hik : (i : Int) < k := by omega
        generalize encAll (ys.drop i) = l at *
        by_cases hk1 : x.k = 1
        · have hb1 : (x.k == 1) = true := by rw [hk1]; rfl
          have Hread : Hid (rdT 2097152 l false = (bl x.s, encAll (ys.drop (i + 1)), false)) := Lib.hid (by
            have e : encI x = encL (bl x.s).length ++ bl x.s := by unfold encI; rw [if_pos hk1, bl_length]
            rw [Hsplit.out, e, List.append_assoc, ← List.append_assoc]
            refine back_text _ _ ?_
            have h := hbl
            rw [Hsplit.out, e, List.length_append, List.length_append] at h
            omega)
          have Ht : Hid (∀ w', RdM 61 w' ar l false → Calls Try.prog 19 #[.pointer (some ⟨ar, 0, none⟩), .int .i64 2097152] w' (RdGot 61 w' ar (.string x.s) (encAll (ys.drop (i + 1)), false))) := Lib.hid (fun w' h => by
            have := text_any 2097152 l false ar w' h (by omega)
            rw [Hread.out, bs_bl] at this
            exact this)
          go_wp2_with fail
          go_region_held3 (fun w' => w'.cell? ⟨b, off + i * 4 + 2, none⟩ = some (.string x.s))
            (first | (show wr.cell? ⟨b, off + i * 4 + 2, none⟩ = _; assumption) | (rw [hg6.cell_far (a := ⟨b, off + i * 4 + 2, none⟩) (Nat.lt_trans hb Hback.out.rd.lt) (by simp; omega)]; assumption))
            ((go_at_call 19; refine (Ht.out wr.drew Hback.out.rd).mono ?_; rintro e w6 ⟨rfl, hrd6, hg6⟩))
          have Hb6 : Hid (BackAt w4 ar (encAll (ys.drop (i + 1))) w6) := Lib.hid ⟨hrd6, Hback.out.below.drew.trans (below_grown hg6 (Nat.le_of_lt Hback.out.rd.lt))⟩
          clear hrd6 hg6
          go_wp2
          go_roundw
          case rel => exact ⟨i + 1, by omega, by go_num, Hb6.out⟩
          case measure => simp [intOf]; omega
        · have hb1 : (x.k == 1) = false := by rw [beq_eq_false_iff_ne]; exact hk1
          by_cases hk2 : x.k = 2
          · have hb2 : (x.k == 2) = true := by rw [hk2]; rfl
            have Ht : Hid (∀ w', RdM 61 w' ar l false → Calls Try.prog 21 #[.pointer (some ⟨ar, 0, none⟩)] w' (RdGot 61 w' ar (.bool x.b) (encAll (ys.drop (i + 1)), false))) := Lib.hid (fun w' h => by
              have := flag_any l false ar w' h (by omega)
              have e : encI x = encL (if x.b = true then 1 else 0) := by unfold encI; rw [if_neg hk1, if_pos hk2]
              rw [Hsplit.out, e, back_num _ (by unfold top; split <;> omega) 1 (by split <;> omega)] at this
              cases hxb : x.b <;> rw [hxb] at this <;> exact this)
            go_wp2_with fail
            go_region_held3 (fun w' => w'.cell? ⟨b, off + i * 4 + 3, none⟩ = some (.bool x.b))
              (first | (show wr.cell? ⟨b, off + i * 4 + 3, none⟩ = _; assumption) | (rw [hg6.cell_far (a := ⟨b, off + i * 4 + 3, none⟩) (Nat.lt_trans hb Hback.out.rd.lt) (by simp; omega)]; assumption))
              ((go_at_call 21; refine (Ht.out wr.drew Hback.out.rd).mono ?_; rintro e w6 ⟨rfl, hrd6, hg6⟩))
            have Hb6 : Hid (BackAt w4 ar (encAll (ys.drop (i + 1))) w6) := Lib.hid ⟨hrd6, Hback.out.below.drew.trans (below_grown hg6 (Nat.le_of_lt Hback.out.rd.lt))⟩
            clear hrd6 hg6
            go_wp2
            go_roundw
            case rel => exact ⟨i + 1, by omega, by go_num, Hb6.out⟩
            case measure => simp [intOf]; omega
          · have hb2 : (x.k == 2) = false := by rw [beq_eq_false_iff_ne]; exact hk2
            have Ht : Hid (∀ w', RdM 61 w' ar l false → Calls Try.prog 17 #[.pointer (some ⟨ar, 0, none⟩)] w' (RdGot 61 w' ar (.int .i64 x.n) (encAll (ys.drop (i + 1)), false))) := Lib.hid (fun w' h => by
              have := num_any l false ar w' h (by omega)
              have e : encI x = encL x.n.toNat := by unfold encI; rw [if_neg hk1, if_neg hk2]
              have hk0 : x.k = 0 := by have := Hxok.out.2; omega
              have hn : ¬ (x.n < 0 ∨ 4611686018427387903 < x.n) := fun h => Hg.out ⟨hk0, h⟩
              rw [Hsplit.out, e, back_num _ (by unfold top; omega) 4611686018427387903 (by omega)] at this
              rw [show ((x.n.toNat : Nat) : Int) = x.n by omega] at this
              exact this)
            go_wp2_with fail
            go_region_held3 (fun w' => w'.cell? ⟨b, off + i * 4 + 1, none⟩ = some (.int .i64 x.n))
              (first | (show wr.cell? ⟨b, off + i * 4 + 1, none⟩ = _; assumption) | (rw [hg6.cell_far (a := ⟨b, off + i * 4 + 1, none⟩) (Nat.lt_trans hb Hback.out.rd.lt) (by simp; omega)]; assumption))
              ((go_at_call 17; refine (Ht.out wr.drew Hback.out.rd).mono ?_; rintro e w6 ⟨rfl, hrd6, hg6⟩))
            have Hb6 : Hid (BackAt w4 ar (encAll (ys.drop (i + 1))) w6) := Lib.hid ⟨hrd6, Hback.out.below.drew.trans (below_grown hg6 (Nat.le_of_lt Hback.out.rd.lt))⟩
            clear hrd6 hg6
            go_wp2
            go_roundw
            case rel => exact ⟨i + 1, by omega, by go_num, Hb6.out⟩
            case measure => simp [intOf]; omega
      · have hik : ¬ (i : Int) < k := by omega
        have hnil : ys.drop i = [] := List.drop_of_length_le (by rw [Hlen.out]; omega)
        have Hend : Hid (∀ w', RdM 61 w' ar [] false → Calls Try.prog 25 #[.pointer (some ⟨ar, 0, none⟩)] w' fun e w'' => e = .returned (.int .i64 0) ∧ w'' = w') := Lib.hid (fun w' h => end_any [] false ar w' h)
        rw [hnil] at Hback
        have Hb : Hid (Below w.heap.size w wr) := Lib.hid (Hb4.out.trans (Hback.out.below.mono Hwar.out))
        clear hnil hbl
        go_wp2_with (go_at_call 25; refine (Hend.out _ Hback.out.rd).mono ?_; rintro e w' ⟨rfl, rfl⟩)
        go_ret
        exact ⟨rfl, Hb.out⟩
  · have hf' : ((f : Int) != 0) = true := by rw [bne_iff_ne]; omega
    clear hst
    go_wp2
    go_ret
    exact ⟨rfl, Hb4.out⟩
end Go.Proofs.Ytdondonmggbmjaa
