/-
  The contract of the program's own Minus.
-/
import Derived.Test.YtfjgikcbngfhmaaGJ
namespace Go.Proofs.Ytfjgikcbngfhmaa
open Go.RowKit Go.Shelf

theorem left_more (s : Sp) (u : List Sp) (i : Nat) (x : Sp) (h : u[i]? = some x) : leftL s (u.take (i + 1)) = leftL s (u.take i) ++ aheadL x s ++ behindL x s := by
  unfold leftL
  rw [List.take_add_one, h, List.flatMap_append]
  simp
theorem ahead_length (x s : Sp) : (aheadL x s).length ≤ 1 := by unfold aheadL; split <;> simp
theorem behind_length (x s : Sp) : (behindL x s).length ≤ 1 := by unfold behindL; split <;> simp

theorem run_max_text (a b : List UInt8) (W : World) : (Builtin.max_ #[9, 9] 9 #[.string (bs a), .string (bs b)]).run Try.prog W = .ok (.string (bs (maxL a b))) W := by
  have h := less_bs a b
  unfold maxL
  rw [← h]
  simp only [Builtin.max_, Builtin.max2, List.foldlM_cons, List.foldlM_nil]
  split <;> rename_i e <;> simp [Op.stringOp, asBool, e]

/-- A step of a region that draws: one element more behind a row of the call's own; what else lies, lies. -/
theorem step_push_keep {P : Program} {w : World} {ops : Array Oper} {o : Oper} {a : Act} {K : Act → World → Prop} {Q : Exit → Act → World → Prop} {E : Prop} (hgd : o.guard = none) (s x : Operand) (t : TypeId)
    (ho : o.op = .call { callee := .builtin .append, args := #[s, x], argTypes := #[t, t] })
    (base : Nat) (e : TypeId) (i : TypeInfo) (z : Value) (k bytes : Nat) (ht : P.underlying t = some (.slice e)) (hi : P.info? e = some i) (hz : i.zero = some z)
    (hsize : i.size = k) (hby : i.bytes = bytes) (hzs : z.cells.size = k) (hk : 0 < k)
    (v : Value) (n : Nat) (xs : List Value) (hs : a.eval s = v) (hown : w.ownsRow base e k v n xs)
    (b c : Nat) (cs : List Value) (hx : a.eval x = .slice (some ⟨b, 0, none⟩) 1 c) (hrow : RowAt w (some ⟨b, 0, none⟩) cs) (hl : cs.length = k) (h1 : ∀ u ∈ cs, u.oneCell' = true) (hn : n ≤ 1000000) (hbytes : bytes ≤ 1000)
    (w0 : World) (hb : Below base w0 w) (hbs : base ≤ w.heap.size)
    (h : ∀ g cap w', w'.ownsRow base e k (.slice (some ⟨g, 0, none⟩) (n + 1) cap) (n + 1) (xs ++ cs) → Below base w0 w' → (∀ p y, w.cell? p = some y → (∀ j, v.ownBlock = some j → p.block ≠ j) → w'.cell? p = some y) → K (a.put o.dst (.slice (some ⟨g, 0, none⟩) (n + 1) cap)) w') :
    if Region.wanted o (yielded ops a.tmps) = true then Oper.wp P o a w K Q else E := by
  refine step_append_lies _ hgd s x t ho base e i z k bytes ht hi hz hsize hby hzs hk v n xs hs hown ⟨b, 0, none⟩ 1 c cs hx (by omega) ?_ h1 (by omega) (by unfold maxLen; omega) ?_ hbs _ rfl ?_
  · intro j u hu
    obtain ⟨b', off', hA', _, hc⟩ := hrow j u hu
    injection hA' with hA'
    injection hA' with e1 e2
    subst e1
    subst e2
    rw [row_add]; exact hc
  · have : (n + 1) * bytes ≤ 1000001 * 1000 := Nat.mul_le_mul (by omega) hbytes
    omega
  · intro g cap w' hown' hgrow _ _
    exact h g cap w' hown' (hb.grown hgrow hbs (fun j hj => (World.ownsRow.lt hown j hj).1)) (fun p y hp hne => hgrow.cell hp (fun e => hne p.block e.symm rfl))

set_option maxRecDepth 100000 in
set_option maxHeartbeats 8000000 in
theorem minus_any (l : List Sp) (A : Option Addr) (n cap : Nat) (s : Sp) (w : World) (hn : l.length = n) (hr : RowAt w A (spC l)) (hn2 : n ≤ 1000) :
    Calls Try.prog 24 #[.slice A n cap, spV s] w (SpRet (minusL l s) w) := by
  obtain ⟨i0, hi0, hz0, hz1, hz2⟩ := info_parts infoS
  obtain ⟨B, hB⟩ : ∃ B, B = w.heap.size := ⟨_, rfl⟩
  obtain ⟨w0, hw0⟩ : ∃ w0, w0 = w.alloc (.cells #[.string (bs s.1), .string (bs s.2)] 23) := ⟨_, rfl⟩
  have Hb0 : Hid (Below w.heap.size w w0) := Lib.hid (by rw [hw0]; exact (Below.refl _ _).alloc (Nat.le_refl _) _)
  have hs0 : w0.heap.size = B + 1 := by rw [hw0, hB]; simp
  have hc0 : w0.cell? ⟨B, 0, none⟩ = some (.string (bs s.1)) := by rw [hw0, hB]; simp
  have hc1 : w0.cell? ⟨B, 1, none⟩ = some (.string (bs s.2)) := by rw [hw0, hB]; simp
  have HC := Lib.hid (fun (w1 : World) (hb : Below w0.heap.size w0 w1) => (⟨(hb.cell (p := ⟨B, 0, none⟩) (by rw [hs0]; exact Nat.lt_succ_self _)).trans hc0, (hb.cell (p := ⟨B, 1, none⟩) (by rw [hs0]; exact Nat.lt_succ_self _)).trans hc1, Nat.lt_of_lt_of_le (by rw [hs0]; exact Nat.lt_succ_self _) hb.size⟩ :
    w1.cell? ⟨B, 0, none⟩ = some (.string (bs s.1)) ∧ w1.cell? ⟨B, 1, none⟩ = some (.string (bs s.2)) ∧ B < w1.heap.size))
  have HU := Lib.hid (union_any l A n cap w0 hn (hr.below Hb0.out (Nat.le_refl _)) hn2)
  have Hlen : Hid ((unionL l).length ≤ 1 + 2 * n) := Lib.hid (union_length l n hn)
  have HR := Lib.hid (fun W => right_any s W)
  have HB := Lib.hid hB
  clear hn hr hs0 hc0 hc1 hB
  cases hv : validL s with
  | false =>
    rw [hv] at HR
    have Hw := Lib.hid (wrong_minus l s hv)
    rw [Hw.out] at HU
    generalize minusL l s = m at HU
    clear Hw hv Hlen
    obtain ⟨a, b⟩ := s
    unfold spV at HR ⊢
    go_enter Try.func24, Try.ntmps24
    go_wp2_with fail
    rw [← hw0, ← HB.out]
    refine HU.out.mono ?_
    rintro e w1 ⟨⟨A1, m1, cap1, rfl, hm, hr1⟩, hb1⟩
    obtain ⟨c0, c1, c2⟩ := HC.out w1 hb1
    have Hb1 := Lib.hid (Hb0.out.trans (hb1.mono Hb0.out.size))
    have Hr1 := Lib.hid hr1
    have Hm := Lib.hid hm
    clear hb1 hr1 hm hw0
    go_wp2_with (go_at_call 12; refine (HR.out _).mono ?_; rintro e w2 ⟨rfl, hb2⟩)
    go_ret
    exact ⟨⟨A1, m1, cap1, rfl, Hm.out, Hr1.out.below hb2 (Nat.le_refl _)⟩, Hb1.out.trans (hb2.mono Hb1.out.size)⟩
  | true =>
    rw [hv] at HR
    have Hw := Lib.hid (left_minus l s hv)
    rw [← Hw.out]
    generalize hu : unionL l = u at HU Hlen Hw ⊢
    clear Hw hv hu
    have Hs0 : Hid (∃ a b : List UInt8, s = (a, b)) := Lib.hid ⟨_, _, rfl⟩
    have HsV : Hid (spV s = .agg #[.string (bs s.1), .string (bs s.2)]) := Lib.hid rfl
    rw [HsV.out] at HR ⊢
    go_enter Try.func24, Try.ntmps24
    go_wp2_with fail
    rw [← hw0, ← HB.out]
    refine HU.out.mono ?_
    rintro e w1 ⟨⟨A1, m, cap1, rfl, hm, hr1⟩, hb1⟩
    obtain ⟨c0, c1, c2⟩ := HC.out w1 hb1
    have Hb1 := Lib.hid (hb1.mono (Nat.le_refl _))
    have Hr1 := Lib.hid hr1
    have Hm := Lib.hid hm
    clear hb1 hr1 hm hw0
    go_wp2_with fail
    refine (HR.out _).mono ?_
    rintro e w2 ⟨rfl, hb2⟩
    have Hb2 := Lib.hid (Hb1.out.trans (hb2.mono Hb1.out.size))
    have Hr2 := Lib.hid (Hr1.out.below hb2 (Nat.le_refl _))
    have Hm1 : Hid (m ≤ 2001) := Lib.hid (by have := Hm.out; have := Hlen.out; omega)
    have HBl : Hid (B < w2.heap.size) := Lib.hid (Nat.lt_of_lt_of_le c2 hb2.size)
    have hc0' := (HC.out w2 Hb2.out).1
    have hc1' := (HC.out w2 Hb2.out).2.1
    have HC2 : Hid (∀ W, Below w2.heap.size w2 W → W.cell? ⟨B, 0, none⟩ = some (.string (bs s.1)) ∧ W.cell? ⟨B, 1, none⟩ = some (.string (bs s.2))) := Lib.hid fun W hW => ⟨(hW.cell (p := ⟨B, 0, none⟩) HBl.out).trans hc0', (hW.cell (p := ⟨B, 1, none⟩) HBl.out).trans hc1'⟩
    clear hb2 c0 c1 c2 hc0' hc1' Hr1 Hb1 HC
    go_wp2_with fail
    go_loopw [6, 18] (fun lv iv wr => ∃ i : Nat, i ≤ m ∧ iv = .int .i64 i ∧ (leftL s (u.take i)).length ≤ 2 * i ∧ wr.ownsRow w2.heap.size 23 2 lv (leftL s (u.take i)).length (spC (leftL s (u.take i))) ∧ Below w2.heap.size w2 wr) (fun _ iv _ => m - (intOf iv).toNat)
    case atStart => exact ⟨0, Nat.zero_le _, rfl, by simp [leftL], World.ownsRow_nil _ _ _ _, Below.refl _ _⟩
    case round =>
      obtain ⟨i, hi, rfl, hll, hown, hbel⟩ := hrel
      have Hown := Lib.hid hown
      have Hb := Lib.hid hbel
      have Hll := Lib.hid hll
      clear hown hbel hll
      by_cases hlt : i < m
      · have hlt' : (i : Int) < (m : Int) := by omega
        obtain ⟨x, hx⟩ : ∃ x, u[i]? = some x := ⟨_, List.getElem?_eq_getElem (by rw [Hm.out]; exact hlt)⟩
        obtain ⟨b, off, rfl, hbl, c0, c1⟩ := row_span Hr2.out i x hx
        have d0 := (Hb.out.cell (p := ⟨b, off + i * 2, none⟩) hbl).trans c0
        have d1 := (Hb.out.cell (p := ⟨b, off + i * 2 + 1, none⟩) hbl).trans c1
        obtain ⟨e0, e1⟩ := HC2.out wr Hb.out
        have Hmore := Lib.hid (left_more s u i x hx)
        have HBr : B < wr.heap.size := Nat.lt_of_lt_of_le HBl.out Hb.out.size
        have hne : (wr.heap.size == B) = false := beq_eq_false_iff_ne.2 (by omega)
        clear c0 c1 hx
        have Hal := Lib.hid (Hb.out.alloc Hb.out.size (.cells #[.string (bs x.1), .string (bs x.2)] 23))
        have Hown' := Lib.hid (own_alloc Hown.out (.cells #[.string (bs x.1), .string (bs x.2)] 23))
        have hmax := fun W => run_max_text x.1 s.2 W
        have hmB : m ≤ 2001 := Hm1.out
        generalize hP : leftL s (u.take i) = p at *
        clear hP
        cases hc : ltL x.1 s.1 with
        | false =>
          have hless : Op.bytesLess (bs x.1).toList (bs s.1).toList = false := by rw [less_bs]; exact hc
          have Hah : Hid (aheadL x s = []) := Lib.hid (by unfold aheadL; rw [if_neg (by rw [hc]; simp)])
          have Hpl : Hid (p.length ≤ 2 * i) := Lib.hid Hll.out
          have Hszz : Hid ((wr.alloc (.cells #[.string (bs x.1), .string (bs x.2)] 23)).heap.size = wr.heap.size + 1) := Lib.hid (by simp)
          cases hs2 : s.2.isEmpty with
          | true =>
            have hemp : (bs s.2).toList.isEmpty = true := by rw [bs_toList]; exact hs2
            have Hbe : Hid (behindL x s = []) := Lib.hid (by unfold behindL; rw [if_neg (by simp at hs2; simp [hs2])])
            have Hnew : Hid (leftL s (u.take (i + 1)) = p) := Lib.hid (by rw [Hmore.out, Hah.out, Hbe.out] <;> simp)
            clear hc hs2
            go_wp2
            go_roundw
            case rel => exact ⟨i + 1, by omega, by go_num, by rw [Hnew.out]; have := Hll.out; omega, by rw [Hnew.out]; exact Hown'.out, Hal.out⟩
            case measure => simp [intOf]; omega
          | false =>
            have hemp : (bs s.2).toList.isEmpty = false := by rw [bs_toList]; exact hs2
            have hs2' : s.2 ≠ [] := by simpa using hs2
            cases hx2 : x.2.isEmpty with
            | true =>
              have hemx : (bs x.2).toList.isEmpty = true := by rw [bs_toList]; exact hx2
              have Hbe : Hid (behindL x s = [(maxL x.1 s.2, x.2)]) := Lib.hid (by unfold behindL; rw [if_pos ⟨hs2', .inl (by simpa using hx2)⟩])
              have Hnew : Hid (leftL s (u.take (i + 1)) = p ++ [(maxL x.1 s.2, x.2)]) := Lib.hid (by rw [Hmore.out, Hah.out, Hbe.out] <;> simp)
              clear hc hs2 hs2' hx2
              go_wp2_with (at_builtin; go_loud (refine wpList_push rfl (.tmp 57) (.tmp 62) 26 rfl w2.heap.size 23 i0 _ 2 32 Try.underlying26 hi0 hz0 hz1 hz2 rfl (by omega) u6 p.length (spC (p)) rfl (Hown'.out) #[.string (bs (maxL x.1 s.2)), .string (bs x.2)] (by rw [Hszz.out]; rfl) rfl (by simp [Value.oneCell']) (by have := Hll.out; have := hmB; have := Hpl.out; omega) (by omega) w2 Hal.out Hal.out.size ?_); intro g5 cap5 w5 hown5 hb5)
              have Hown5 : Hid (w5.ownsRow w2.heap.size 23 2 (.slice (some ⟨g5, 0, none⟩) (p.length + 1) cap5) (p ++ [(maxL x.1 s.2, x.2)]).length (spC (p ++ [(maxL x.1 s.2, x.2)]))) := Lib.hid (by
                rw [spC_append, show (p ++ [(maxL x.1 s.2, x.2)]).length = p.length + 1 by simp]
                exact hown5)
              have Hb5 := Lib.hid hb5
              clear hown5 hb5
              go_wp2
              go_roundw
              case rel => exact ⟨i + 1, by omega, by go_num, by rw [Hnew.out, List.length_append]; have := Hll.out; simp only [List.length_cons, List.length_nil]; omega, by rw [Hnew.out]; exact Hown5.out, Hb5.out⟩
              case measure => simp [intOf]; omega
            | false =>
              have hemx : (bs x.2).toList.isEmpty = false := by rw [bs_toList]; exact hx2
              cases hlm : ltL (maxL x.1 s.2) x.2 with
              | true =>
                have hlm' : Op.bytesLess (bs (maxL x.1 s.2)).toList (bs x.2).toList = true := by rw [less_bs]; exact hlm
                have Hbe : Hid (behindL x s = [(maxL x.1 s.2, x.2)]) := Lib.hid (by unfold behindL; rw [if_pos ⟨hs2', .inr hlm⟩])
                have Hnew : Hid (leftL s (u.take (i + 1)) = p ++ [(maxL x.1 s.2, x.2)]) := Lib.hid (by rw [Hmore.out, Hah.out, Hbe.out] <;> simp)
                clear hc hs2 hs2' hx2 hlm
                go_wp2_with (at_builtin; go_loud (refine wpList_push rfl (.tmp 57) (.tmp 62) 26 rfl w2.heap.size 23 i0 _ 2 32 Try.underlying26 hi0 hz0 hz1 hz2 rfl (by omega) u6 p.length (spC (p)) rfl (Hown'.out) #[.string (bs (maxL x.1 s.2)), .string (bs x.2)] (by rw [Hszz.out]; rfl) rfl (by simp [Value.oneCell']) (by have := Hll.out; have := hmB; have := Hpl.out; omega) (by omega) w2 Hal.out Hal.out.size ?_); intro g5 cap5 w5 hown5 hb5)
                have Hown5 : Hid (w5.ownsRow w2.heap.size 23 2 (.slice (some ⟨g5, 0, none⟩) (p.length + 1) cap5) (p ++ [(maxL x.1 s.2, x.2)]).length (spC (p ++ [(maxL x.1 s.2, x.2)]))) := Lib.hid (by
                  rw [spC_append, show (p ++ [(maxL x.1 s.2, x.2)]).length = p.length + 1 by simp]
                  exact hown5)
                have Hb5 := Lib.hid hb5
                clear hown5 hb5
                go_wp2
                go_roundw
                case rel => exact ⟨i + 1, by omega, by go_num, by rw [Hnew.out, List.length_append]; have := Hll.out; simp only [List.length_cons, List.length_nil]; omega, by rw [Hnew.out]; exact Hown5.out, Hb5.out⟩
                case measure => simp [intOf]; omega
              | false =>
                have hlm' : Op.bytesLess (bs (maxL x.1 s.2)).toList (bs x.2).toList = false := by rw [less_bs]; exact hlm
                have Hbe : Hid (behindL x s = []) := Lib.hid (by unfold behindL; rw [if_neg (by rw [hlm]; simp at hx2; simp [hx2])])
                have Hnew : Hid (leftL s (u.take (i + 1)) = p) := Lib.hid (by rw [Hmore.out, Hah.out, Hbe.out] <;> simp)
                clear hc hs2 hs2' hx2 hlm
                go_wp2
                go_roundw
                case rel => exact ⟨i + 1, by omega, by go_num, by rw [Hnew.out]; have := Hll.out; omega, by rw [Hnew.out]; exact Hown'.out, Hal.out⟩
                case measure => simp [intOf]; omega
        | true =>
          have hless : Op.bytesLess (bs x.1).toList (bs s.1).toList = true := by rw [less_bs]; exact hc
          obtain ⟨fe, hfe⟩ : ∃ fe, fe = (if soonL x.2 s.1 = true then x.2 else s.1) := ⟨_, rfl⟩
          have Hah : Hid (aheadL x s = [(x.1, fe)]) := Lib.hid (by unfold aheadL; rw [if_pos hc, hfe])
          have HF := Lib.hid (fun W => firstEnd_any x.2 s.1 W)
          rw [← hfe] at HF
          obtain ⟨wa, hwa⟩ : ∃ wa, wa = wr.alloc (.cells #[.string (bs x.1), .string (bs x.2)] 23) := ⟨_, rfl⟩
          have hsz : wa.heap.size = wr.heap.size + 1 := by rw [hwa]; simp
          have Hsz := Lib.hid hsz
          have x0 : wa.cell? ⟨wr.heap.size, 0, none⟩ = some (.string (bs x.1)) := by rw [hwa]; simp
          have x1 : wa.cell? ⟨wr.heap.size, 0 + 1, none⟩ = some (.string (bs x.2)) := by rw [hwa]; simp
          have s0 : wa.cell? ⟨B, 0, none⟩ = some (.string (bs s.1)) := by rw [hwa]; exact (((Below.refl wr.heap.size wr).alloc (Nat.le_refl _) _).cell (p := ⟨B, 0, none⟩) HBr).trans e0
          have s1 : wa.cell? ⟨B, 0 + 1, none⟩ = some (.string (bs s.2)) := by rw [hwa]; exact (((Below.refl wr.heap.size wr).alloc (Nat.le_refl _) _).cell (p := ⟨B, 0 + 1, none⟩) HBr).trans e1
          rw [← hwa] at Hal Hown'
          have Hblk : Hid (∀ j, u6.ownBlock = some j → w2.heap.size ≤ j ∧ j < wr.heap.size) := Lib.hid (fun j hj => Hown.out.lt j hj)
          have HX : Hid (∀ j, u6.ownBlock = some j → wr.heap.size ≠ j) := Lib.hid (fun j hj => by have := (Hblk.out j hj).2; omega)
          have HXB : Hid (∀ j, u6.ownBlock = some j → B ≠ j) := Lib.hid (fun j hj => by have := (Hblk.out j hj).1; have := HBl.out; omega)
          clear hfe hc hsz
          have hc : True := trivial
          go_wp2
          rw [← hwa]
          have Hwa := Lib.hid hwa
          clear hwa
          go_region_held3 (fun w' => w'.cell? ⟨wr.heap.size, 0, none⟩ = some (.string (bs x.1)) ∧ w'.cell? ⟨wr.heap.size, 0 + 1, none⟩ = some (.string (bs x.2)) ∧ w'.cell? ⟨B, 0, none⟩ = some (.string (bs s.1)))
            (first
              | exact ⟨x0, x1, s0⟩
              | exact ⟨hk4 _ _ (Lib.cell?_alloc_some _ x0) HX.out, hk4 _ _ (Lib.cell?_alloc_some _ x1) HX.out, hk4 _ _ (Lib.cell?_alloc_some _ s0) HXB.out⟩
              | go_keep)
            (first
              | (go_at_call 40; refine (HF.out _).mono ?_; rintro e w3 ⟨rfl, rfl⟩)
              | (refine step_push_keep (by rfl) _ _ 26 (by rfl) w2.heap.size 23 i0 _ 2 32 Try.underlying26 hi0 hz0 hz1 hz2 rfl (by omega) u6 p.length (spC p) (by rfl) (own_alloc (own_drew Hown'.out) _) _ 1 [.string (bs x.1), .string (bs fe)] (by rfl) (row_new _ _ _) rfl (by simp [Value.oneCell']) (by have := Hll.out; have := hmB; omega) (by omega) w2 (Hal.out.drew.alloc (Nat.le_trans Hal.out.size (by simp)) _) (Nat.le_trans Hal.out.size (by simp)) ?_; intro g4 cap4 w4 hown4 hb4 hk4))
          have y0 : w4.cell? ⟨wr.heap.size, 0, none⟩ = some (.string (bs x.1)) := hk4 _ _ (Lib.cell?_alloc_some _ x0) HX.out
          have y1 : w4.cell? ⟨wr.heap.size, 1, none⟩ = some (.string (bs x.2)) := hk4 _ _ (Lib.cell?_alloc_some _ x1) HX.out
          have t1 : w4.cell? ⟨B, 1, none⟩ = some (.string (bs s.2)) := hk4 _ _ (Lib.cell?_alloc_some _ s1) HXB.out
          have Hown4 : Hid (w4.ownsRow w2.heap.size 23 2 (.slice (some ⟨g4, 0, none⟩) (p.length + 1) cap4) (p ++ [(x.1, fe)]).length (spC (p ++ [(x.1, fe)]))) := Lib.hid (by
            rw [spC_append, List.length_append]
            exact hown4)
          have Hown4n : Hid (w4.ownsRow w2.heap.size 23 2 (.slice (some ⟨g4, 0, none⟩) (p.length + 1) cap4) (p.length + 1) (spC (p ++ [(x.1, fe)]))) := Lib.hid (by
            rw [spC_append]
            exact hown4)
          have Hb4 := Lib.hid hb4
          have Hll4 : Hid ((p ++ [(x.1, fe)]).length ≤ 2 * i + 1) := Lib.hid (by rw [List.length_append]; have := Hll.out; simp only [List.length_cons, List.length_nil]; omega)
          have Hpl : Hid (p.length ≤ 2 * i) := Lib.hid Hll.out
          have Hlen4 : Hid ((p ++ [(x.1, fe)]).length = p.length + 1) := Lib.hid (by simp)
          clear x0 x1 s0 s1 hown4 hb4 hk4 e0 e1 HF hless
          cases hs2 : s.2.isEmpty with
          | true =>
            have hemp : (bs s.2).toList.isEmpty = true := by rw [bs_toList]; exact hs2
            have Hbe : Hid (behindL x s = []) := Lib.hid (by unfold behindL; rw [if_neg (by simp at hs2; simp [hs2])])
            have Hnew : Hid (leftL s (u.take (i + 1)) = (p ++ [(x.1, fe)])) := Lib.hid (by rw [Hmore.out, Hah.out, Hbe.out] <;> simp)
            clear hc hs2
            go_wp2
            go_roundw
            case rel => exact ⟨i + 1, by omega, by go_num, by rw [Hnew.out]; have := Hll4.out; omega, by rw [Hnew.out]; exact Hown4.out, Hb4.out⟩
            case measure => simp [intOf]; omega
          | false =>
            have hemp : (bs s.2).toList.isEmpty = false := by rw [bs_toList]; exact hs2
            have hs2' : s.2 ≠ [] := by simpa using hs2
            cases hx2 : x.2.isEmpty with
            | true =>
              have hemx : (bs x.2).toList.isEmpty = true := by rw [bs_toList]; exact hx2
              have Hbe : Hid (behindL x s = [(maxL x.1 s.2, x.2)]) := Lib.hid (by unfold behindL; rw [if_pos ⟨hs2', .inl (by simpa using hx2)⟩])
              have Hnew : Hid (leftL s (u.take (i + 1)) = (p ++ [(x.1, fe)]) ++ [(maxL x.1 s.2, x.2)]) := Lib.hid (by rw [Hmore.out, Hah.out, Hbe.out] <;> simp)
              clear hc hs2 hs2' hx2
              go_wp2_with (at_builtin; go_loud (refine wpList_push rfl (.tmp 57) (.tmp 62) 26 rfl w2.heap.size 23 i0 _ 2 32 Try.underlying26 hi0 hz0 hz1 hz2 rfl (by omega) (.slice (some ⟨g4, 0, none⟩) (p.length + 1) cap4) (p.length + 1) (spC ((p ++ [(x.1, fe)]))) rfl (Hown4n.out) #[.string (bs (maxL x.1 s.2)), .string (bs x.2)] (by rfl) rfl (by simp [Value.oneCell']) (by have := Hll4.out; have := hmB; have := Hpl.out; omega) (by omega) w2 Hb4.out Hb4.out.size ?_); intro g5 cap5 w5 hown5 hb5)
              have Hown5 : Hid (w5.ownsRow w2.heap.size 23 2 (.slice (some ⟨g5, 0, none⟩) ((p.length + 1) + 1) cap5) ((p ++ [(x.1, fe)]) ++ [(maxL x.1 s.2, x.2)]).length (spC ((p ++ [(x.1, fe)]) ++ [(maxL x.1 s.2, x.2)]))) := Lib.hid (by
                rw [spC_append, show ((p ++ [(x.1, fe)]) ++ [(maxL x.1 s.2, x.2)]).length = (p.length + 1) + 1 by simp]
                exact hown5)
              have Hb5 := Lib.hid hb5
              clear hown5 hb5
              go_wp2
              go_roundw
              case rel => exact ⟨i + 1, by omega, by go_num, by rw [Hnew.out, List.length_append]; have := Hll4.out; simp only [List.length_cons, List.length_nil]; omega, by rw [Hnew.out]; exact Hown5.out, Hb5.out⟩
              case measure => simp [intOf]; omega
            | false =>
              have hemx : (bs x.2).toList.isEmpty = false := by rw [bs_toList]; exact hx2
              cases hlm : ltL (maxL x.1 s.2) x.2 with
              | true =>
                have hlm' : Op.bytesLess (bs (maxL x.1 s.2)).toList (bs x.2).toList = true := by rw [less_bs]; exact hlm
                have Hbe : Hid (behindL x s = [(maxL x.1 s.2, x.2)]) := Lib.hid (by unfold behindL; rw [if_pos ⟨hs2', .inr hlm⟩])
                have Hnew : Hid (leftL s (u.take (i + 1)) = (p ++ [(x.1, fe)]) ++ [(maxL x.1 s.2, x.2)]) := Lib.hid (by rw [Hmore.out, Hah.out, Hbe.out] <;> simp)
                clear hc hs2 hs2' hx2 hlm
                go_wp2_with (at_builtin; go_loud (refine wpList_push rfl (.tmp 57) (.tmp 62) 26 rfl w2.heap.size 23 i0 _ 2 32 Try.underlying26 hi0 hz0 hz1 hz2 rfl (by omega) (.slice (some ⟨g4, 0, none⟩) (p.length + 1) cap4) (p.length + 1) (spC ((p ++ [(x.1, fe)]))) rfl (Hown4n.out) #[.string (bs (maxL x.1 s.2)), .string (bs x.2)] (by rfl) rfl (by simp [Value.oneCell']) (by have := Hll4.out; have := hmB; have := Hpl.out; omega) (by omega) w2 Hb4.out Hb4.out.size ?_); intro g5 cap5 w5 hown5 hb5)
                have Hown5 : Hid (w5.ownsRow w2.heap.size 23 2 (.slice (some ⟨g5, 0, none⟩) ((p.length + 1) + 1) cap5) ((p ++ [(x.1, fe)]) ++ [(maxL x.1 s.2, x.2)]).length (spC ((p ++ [(x.1, fe)]) ++ [(maxL x.1 s.2, x.2)]))) := Lib.hid (by
                  rw [spC_append, show ((p ++ [(x.1, fe)]) ++ [(maxL x.1 s.2, x.2)]).length = (p.length + 1) + 1 by simp]
                  exact hown5)
                have Hb5 := Lib.hid hb5
                clear hown5 hb5
                go_wp2
                go_roundw
                case rel => exact ⟨i + 1, by omega, by go_num, by rw [Hnew.out, List.length_append]; have := Hll4.out; simp only [List.length_cons, List.length_nil]; omega, by rw [Hnew.out]; exact Hown5.out, Hb5.out⟩
                case measure => simp [intOf]; omega
              | false =>
                have hlm' : Op.bytesLess (bs (maxL x.1 s.2)).toList (bs x.2).toList = false := by rw [less_bs]; exact hlm
                have Hbe : Hid (behindL x s = []) := Lib.hid (by unfold behindL; rw [if_neg (by rw [hlm]; simp at hx2; simp [hx2])])
                have Hnew : Hid (leftL s (u.take (i + 1)) = (p ++ [(x.1, fe)])) := Lib.hid (by rw [Hmore.out, Hah.out, Hbe.out] <;> simp)
                clear hc hs2 hs2' hx2 hlm
                go_wp2
                go_roundw
                case rel => exact ⟨i + 1, by omega, by go_num, by rw [Hnew.out]; have := Hll4.out; omega, by rw [Hnew.out]; exact Hown4.out, Hb4.out⟩
                case measure => simp [intOf]; omega
      · have hlt' : ¬ (i : Int) < (m : Int) := by omega
        have Hfin : Hid (leftL s (u.take i) = leftL s u) := Lib.hid (by
          rw [List.take_of_length_le (by rw [Hm.out]; omega)])
        go_wp2
        go_ret
        obtain ⟨A2, cap2, rfl, hrow⟩ := own_row Hown.out
        refine ⟨⟨A2, _, cap2, rfl, by rw [Hfin.out], by rw [← Hfin.out]; exact hrow⟩, ?_⟩
        exact Hb0.out.trans ((Hb2.out.trans (Hb.out.mono Hb2.out.size)).mono Hb0.out.size)
end Go.Proofs.Ytfjgikcbngfhmaa
