/-
  The contract of the law's tame.
-/
import Derived.Test.YtdondonmggbmjaaLawA
namespace Go.Proofs.Ytdondonmggbmjaa
open Go.RowKit

/-- The cells of things. -/
def itC (x : It) : List Value := [.int .i64 x.k, .int .i64 x.n, .string x.s, .bool x.b]
@[irreducible] def itsC (xs : List It) : List Value := xs.flatMap itC
theorem itsC_eq (xs : List It) : itsC xs = xs.flatMap itC := by unfold itsC; rfl
theorem itsC_nil : itsC [] = [] := by rw [itsC_eq]; rfl
theorem itsC_cons (x : It) (xs : List It) : itsC (x :: xs) = itC x ++ itsC xs := by rw [itsC_eq, itsC_eq]; rfl
theorem itsC_length (xs : List It) : (itsC xs).length = xs.length * 4 := by
  induction xs with
  | nil => rw [itsC_nil]; rfl
  | cons x xs ih => rw [itsC_cons, List.length_append, ih]; simp [itC]; omega
theorem itsC_one (xs : List It) : ∀ u ∈ itsC xs, u.oneCell' = true := by
  induction xs with
  | nil => rw [itsC_nil]; simp
  | cons x xs ih =>
    rw [itsC_cons]
    intro u hu
    rcases List.mem_append.1 hu with h | h
    · simp only [itC, List.mem_cons, List.not_mem_nil, or_false] at h
      rcases h with rfl | rfl | rfl | rfl <;> rfl
    · exact ih u h
theorem itsC_at (xs : List It) : ∀ (i : Nat) (x : It), xs[i]? = some x → (itsC xs)[i * 4]? = some (.int .i64 x.k) ∧ (itsC xs)[i * 4 + 1]? = some (.int .i64 x.n) ∧ (itsC xs)[i * 4 + 2]? = some (.string x.s) ∧ (itsC xs)[i * 4 + 3]? = some (.bool x.b) := by
  induction xs with
  | nil => intro i x h; simp at h
  | cons y xs ih =>
    intro i x h
    rw [itsC_cons]
    cases i with
    | zero =>
      obtain rfl : y = x := by simpa using h
      simp [itC]
    | succ i =>
      have := ih i x (by simpa using h)
      rw [show (i + 1) * 4 = (itC y).length + i * 4 by simp [itC]; omega, Nat.add_assoc, Nat.add_assoc, Nat.add_assoc, List.getElem?_append_right (by omega), List.getElem?_append_right (by omega), List.getElem?_append_right (by omega), List.getElem?_append_right (by omega)]
      simpa using this
theorem itsC_set (xs : List It) : ∀ (i : Nat) (x : It), xs[i]? = some x → (itsC xs).set (i * 4) (.int .i64 0) = itsC (xs.set i { x with k := 0 }) := by
  induction xs with
  | nil => intro i x h; simp at h
  | cons y xs ih =>
    intro i x h
    cases i with
    | zero =>
      obtain rfl : y = x := by simpa using h
      rw [List.set_cons_zero, itsC_cons, itsC_cons]; rfl
    | succ i =>
      have := ih i x (by simpa using h)
      rw [List.set_cons_succ, itsC_cons, itsC_cons, show (i + 1) * 4 = (itC y).length + i * 4 by simp [itC]; omega, List.set_append_right _ _ (by omega), Nat.add_sub_cancel_left, this]
theorem itsC_every (xs : List It) (j : Nat) (u : Value) (h : (itsC xs)[j]? = some u) : ∃ i x r, xs[i]? = some x ∧ j = i * 4 + r ∧ ((r = 0 ∧ u = .int .i64 x.k) ∨ (r = 1 ∧ u = .int .i64 x.n) ∨ (r = 2 ∧ u = .string x.s) ∨ (r = 3 ∧ u = .bool x.b)) := by
  have hl : j < (itsC xs).length := (List.getElem?_eq_some_iff.1 h).1
  rw [itsC_length] at hl
  have hx : xs[j / 4]? = some xs[j / 4] := List.getElem?_eq_getElem (by omega)
  obtain ⟨h0, h1, h2, h3⟩ := itsC_at xs (j / 4) _ hx
  have hj : j = j / 4 * 4 + j % 4 := by omega
  refine ⟨j / 4, _, j % 4, hx, hj, ?_⟩
  rw [hj] at h
  have : j % 4 = 0 ∨ j % 4 = 1 ∨ j % 4 = 2 ∨ j % 4 = 3 := by omega
  rcases this with e | e | e | e <;> rw [e] at h
  · exact .inl ⟨e, by rw [Nat.add_zero, h0] at h; exact (Option.some.inj h).symm⟩
  · exact .inr (.inl ⟨e, by rw [h1] at h; exact (Option.some.inj h).symm⟩)
  · exact .inr (.inr (.inl ⟨e, by rw [h2] at h; exact (Option.some.inj h).symm⟩))
  · exact .inr (.inr (.inr ⟨e, by rw [h3] at h; exact (Option.some.inj h).symm⟩))
/-- The cells behind a slice of things. -/
theorem IRow.every {w : World} {b off : Nat} {xs : List It} (h : IRow w (some ⟨b, off, none⟩) xs) (j : Nat) (u : Value) (hu : (itsC xs)[j]? = some u) : w.cell? ((⟨b, off, none⟩ : Addr).add j) = some u := by
  obtain ⟨i, x, r, hx, rfl, hr⟩ := itsC_every xs j u hu
  obtain ⟨b', off', hA, _, h0, h1, h2, h3⟩ := h i x hx
  obtain ⟨rfl, rfl⟩ : b = b' ∧ off = off' := by simpa using hA
  have e : (⟨b, off, none⟩ : Addr).add (i * 4 + r) = ⟨b, off + i * 4 + r, none⟩ := by
    unfold Addr.add
    split
    · rename_i hz; simp <;> omega
    · simp [Nat.add_assoc]
  rw [e]
  rcases hr with ⟨rfl, rfl⟩ | ⟨rfl, rfl⟩ | ⟨rfl, rfl⟩ | ⟨rfl, rfl⟩
  · exact h0
  · exact h1
  · exact h2
  · exact h3
/-- A row of the call's own that bears things. -/
theorem irow_holds {w : World} {g : Nat} {xs : List It} {rest : List Value} (h : Holds w g 49 (itsC xs ++ rest)) : IRow w (some ⟨g, 0, none⟩) xs := fun i x hx => by
  obtain ⟨h0, h1, h2, h3⟩ := itsC_at xs i x hx
  have hi : i < xs.length := (List.getElem?_eq_some_iff.1 hx).1
  have key : ∀ (r : Nat) (u : Value), r < 4 → (itsC xs)[i * 4 + r]? = some u → w.cell? ⟨g, 0 + i * 4 + r, none⟩ = some u := fun r u hr hu => by
    rw [Nat.zero_add]
    refine Holds.cell h ?_
    rw [List.getElem?_append_left (by rw [itsC_length]; omega)]; exact hu
  exact ⟨g, 0, rfl, Holds.lt h, key 0 _ (by omega) h0, key 1 _ (by omega) h1, key 2 _ (by omega) h2, key 3 _ (by omega) h3⟩

/-- A thing of the three kinds. -/
def tameI (x : It) : It := if x.k ≠ 1 ∧ x.k ≠ 2 then { x with k := 0 } else x
def tameL (xs : List It) : List It := (xs.take 1000).map tameI
def tmL (xs : List It) (i : Nat) : List It := (xs.take i).map tameI ++ xs.drop i
theorem tmL_zero (xs : List It) : tmL xs 0 = xs := by simp [tmL]
theorem tmL_end (xs : List It) : tmL xs xs.length = xs.map tameI := by simp [tmL]
theorem tmL_length (xs : List It) (i : Nat) : (tmL xs i).length = xs.length := by simp [tmL]; omega
theorem tmL_get (xs : List It) (i : Nat) (x : It) (h : xs[i]? = some x) : (tmL xs i)[i]? = some x := by
  have hi := (List.getElem?_eq_some_iff.1 h).1
  unfold tmL
  rw [List.getElem?_append_right (by simp; omega)]
  simp only [List.length_map, List.length_take, List.getElem?_drop]
  rw [show i + (i - min i xs.length) = i by omega]; exact h
theorem tmL_step (xs : List It) (i : Nat) (x : It) (h : xs[i]? = some x) : tmL xs (i + 1) = (tmL xs i).set i (tameI x) := by
  obtain ⟨hi, rfl⟩ := List.getElem?_eq_some_iff.1 h
  unfold tmL
  rw [List.take_succ_eq_append_getElem hi, List.map_append, List.drop_eq_getElem_cons hi, List.set_append_right _ _ (by simp; omega)]
  simp only [List.length_map, List.length_take, List.map_cons, List.map_nil]
  rw [show i - min i xs.length = 0 by omega, List.set_cons_zero, List.append_assoc]; rfl
theorem tmL_same (xs : List It) (i : Nat) (x : It) (h : xs[i]? = some x) (hs : tameI x = x) : tmL xs (i + 1) = tmL xs i := by
  rw [tmL_step xs i x h, hs]
  apply List.ext_getElem?
  intro j
  rw [List.getElem?_set]
  split
  · rename_i e; subst e
    rw [if_pos (by rw [tmL_length]; exact (List.getElem?_eq_some_iff.1 h).1), tmL_get xs i x h]
  · rfl

theorem info49 : (Try.prog.info? 49).map (fun i => (i.zero, i.size, i.bytes)) = some (some (.agg #[.int .i64 0, .int .i64 0, .string .empty, .bool false]), 4, 40) := by kernel_rfl
theorem run_append_none {P : Program} (w : World) (t ty e : TypeId) (i : TypeInfo) (ht : P.underlying t = some (.slice e)) (hi : P.info? e = some i) (g : Nat) (A : Option Addr) (c : Nat) :
    (Builtin.append_ #[t, t] ty #[.slice (some ⟨g, 0, none⟩) 0 0, .slice A 0 c]).run P w = .ok (.slice (some ⟨g, 0, none⟩) 0 0) w := by
  cases A <;> simp [Builtin.append_, run_underlying ht, sizeOf, typeInfo, hi, Builtin.lenOf, Builtin.firstCells, storeCells, loadCells, loadCellsFrom]

theorem wpList_append_none {P : Program} {w : World} {ops : Array Oper} {rest : List Oper} {o : Oper} {a : Act} {Q : Exit → Act → World → Prop} (hgd : o.guard = none) (s x : Operand) (t : TypeId)
    (ho : o.op = .call { callee := .builtin .append, args := #[s, x], argTypes := #[t, t] }) (e : TypeId) (i : TypeInfo) (ht : P.underlying t = some (.slice e)) (hi : P.info? e = some i)
    (g : Nat) (A : Option Addr) (c : Nat) (hs : a.eval s = .slice (some ⟨g, 0, none⟩) 0 0) (hx : a.eval x = .slice A 0 c)
    (h : wpList P ops Q rest (a.put o.dst (.slice (some ⟨g, 0, none⟩) 0 0)) w) : wpList P ops Q (o :: rest) a w := by
  have hr := run_append_none (P := P) w t o.type e i ht hi g A c
  refine wpList_plain hgd fun K hK => ?_
  unfold Oper.wp execOp
  simp only [ho, resolve, invoke, builtin, Sem.run_bind, Sem.run_pure, Result.andThen_ok, List.map_toArray, List.map_cons, List.map_nil, hs, hx, hr]
  exact hK _ _ h

/-- What tame leaves. -/
def TameGot (w : World) (xs : List It) (e : Ending) (w' : World) : Prop :=
  ∃ A' k cap', e = .returned (.slice A' k cap') ∧ (tameL xs).length = k ∧ k ≤ 1000 ∧ IRow w' A' (tameL xs) ∧ Below w.heap.size w w'
/-- The loop of tame over a row of the call's own. -/
def TmAt (w : World) (g : Nat) (ys : List It) (rest : List Value) (wr : World) : Prop := Holds wr g 49 (itsC ys ++ rest) ∧ Below w.heap.size w wr

set_option maxRecDepth 100000 in
set_option maxHeartbeats 1000000 in
theorem tame_any (xs : List It) (A : Option Addr) (n cap : Nat) (w : World) (hn : xs.length = n) (hr : IRow w A xs) (hn2 : n ≤ 9223372036854775807) (hc : n ≤ cap) :
    Calls Try.prog 9 #[.slice A n cap] w (TameGot w xs) := by
  obtain ⟨i0, hi0, hz0, hz1, hz2⟩ := info_parts info49
  by_cases h0 : n = 0
  · have hmin : min (n : Int) 1000 = 0 := by omega
    have hx : xs = [] := List.eq_nil_of_length_eq_zero (by omega)
    have Hx : Hid (tameL xs = []) := Lib.hid (by rw [hx]; rfl)
    have Hb : Hid (Below w.heap.size w (w.alloc (.cells #[] 49))) := Lib.hid ((Below.refl _ _).alloc (Nat.le_refl _) _)
    clear hx hr h0
    go_enter Try.func9, Try.ntmps9
    go_wp2_with (at_builtin; refine wpList_append_none rfl (.tmp 5) (.tmp 10) 22 rfl 49 i0 Try.underlying22 hi0 _ A cap rfl rfl ?_)
    go_loop [4, 14] (fun _ v => v = .int .i64 0) (fun _ _ => 0)
    case atStart => rfl
    case round =>
      subst hrel
      go_wp2
      go_ret
      exact ⟨_, _, _, rfl, by rw [Hx.out]; rfl, by omega, by rw [Hx.out]; intro i x h; simp at h, Hb.out⟩
  · obtain ⟨m, hm⟩ : ∃ m, m = min n 1000 := ⟨_, rfl⟩
    have hmin : min (n : Int) 1000 = (m : Int) := by omega
    have hm0 : 0 < m := by omega
    have hm1 : m ≤ 1000 := by omega
    have hmn : m ≤ n := by omega
    have hmc : (m : Int) ≤ cap := by omega
    obtain ⟨ys, hys⟩ : ∃ ys, ys = xs.take 1000 := ⟨_, rfl⟩
    have hyl : ys.length = m := by rw [hys, List.length_take]; omega
    have Hx : Hid (tameL xs = ys.map tameI) := Lib.hid (by rw [hys]; rfl)
    have hyr : IRow w A ys := fun i x h => hr i x (by
      rw [hys, List.getElem?_take] at h
      split at h
      · exact h
      · cases h)
    obtain ⟨y0, hy0⟩ : ∃ y, ys[0]? = some y := ⟨_, List.getElem?_eq_getElem (by omega)⟩
    obtain ⟨b, off, rfl, hbl, hrest⟩ := hyr 0 y0 hy0
    clear hrest
    have Hl := Lib.hid hyl
    have Hn4 : Hid ((itsC ys).length = m * 4) := Lib.hid (by rw [itsC_length, hyl])
    have Hone := Lib.hid (itsC_one ys)
    have hyr' : IRow (w.alloc (.cells #[] 49)) (some ⟨b, off, none⟩) ys := hyr.below ((Below.refl w.heap.size w).alloc (Nat.le_refl _) _) (Nat.le_refl _)
    have Hnew : Hid (∀ j u, (itsC ys)[j]? = some u → (w.alloc (.cells #[] 49)).cell? ((⟨b, off, none⟩ : Addr).add j) = some u) := Lib.hid (fun j u hu => hyr'.every j u hu)
    have Hlit : Hid ((w.alloc (.cells #[] 49)).ownsRow w.heap.size 49 4 (.slice (some ⟨w.heap.size, 0, none⟩) 0 0) 0 []) := Lib.hid (World.ownsRow_lit w #[] 0 (Nat.le_refl _) (by unfold maxLen; omega) rfl)
    have Hm1 : Hid (0 + m ≤ maxLen) := Lib.hid (by unfold maxLen; omega)
    have Hm2 : Hid ((0 + m) * 40 ≤ 140737488355328) := Lib.hid (by omega)
    have Hsz : Hid (w.heap.size ≤ (w.alloc (.cells #[] 49)).heap.size) := Lib.hid (by simp)
    have Hb0 : Hid (Below w.heap.size w (w.alloc (.cells #[] 49))) := Lib.hid ((Below.refl _ _).alloc (Nat.le_refl _) _)
    clear hr hyr hyr' hys hyl hn hy0 hm
    go_enter Try.func9, Try.ntmps9
    go_wp2_with (at_builtin; go_loud (refine wpList_append_lies _ rfl (.tmp 5) (.tmp 10) 22 rfl w.heap.size 49 i0 _ 4 40 Try.underlying22 hi0 hz0 hz1 hz2 rfl (by omega) (.slice (some ⟨w.heap.size, 0, none⟩) 0 0) 0 [] rfl Hlit.out ⟨b, off, none⟩ m cap (itsC ys) rfl Hn4.out Hnew.out Hone.out hm0 Hm1.out Hm2.out Hsz.out _ rfl ?_); intro g1 cap1 w1 hown1 hgrow1 hor1 hg1)
    obtain ⟨hlen1, hown1'⟩ := hown1
    rcases hown1' with ⟨hv, _⟩ | ⟨g2, cap2, cur, hv, hbg, hg, hnc, hcm, hcs, htake⟩
    · cases hv
    · obtain ⟨rfl, rfl⟩ : g1 = g2 ∧ cap1 = cap2 := by simpa using hv
      rw [List.nil_append] at htake
      have H1 : Hid (TmAt w g1 (tmL ys 0) (cur.toList.drop (m * 4)) w1) := Lib.hid (by
        refine ⟨?_, Hb0.out.grown hgrow1 Hsz.out (fun k hk => by
          have : w.heap.size = k := by simpa [Value.ownBlock] using hk
          omega)⟩
        unfold Holds
        rw [tmL_zero, ← htake, Nat.zero_add, List.take_append_drop, hg])
      generalize cur.toList.drop (m * 4) = rest at *
      clear hv hg hnc hcm hcs htake hgrow1 hor1 hg1 hlen1
      go_wp2
      go_loopw [4, 14] (fun _ v wr => ∃ i : Nat, i ≤ m ∧ v = .int .i64 i ∧ TmAt w g1 (tmL ys i) rest wr) (fun _ v _ => m - (intOf v).toNat)
      case atStart => exact ⟨0, by omega, rfl, H1.out⟩
      case round =>
        clear H1
        obtain ⟨i, hi, rfl, ht⟩ := hrel
        have Ht := Lib.hid ht
        clear ht
        by_cases hlt : i < m
        · obtain ⟨x, hx⟩ : ∃ x, ys[i]? = some x := ⟨_, List.getElem?_eq_getElem (by rw [Hl.out]; exact hlt)⟩
          have Hstep := Lib.hid (tmL_step ys i x hx)
          have Hsame := Lib.hid (tmL_same ys i x hx)
          have Hget := Lib.hid (tmL_get ys i x hx)
          have c0 := (itsC_at (tmL ys i) i x (tmL_get ys i x hx)).1
          have hcell := Holds.cell Ht.out.1 (i := i * 4) (v := .int .i64 x.k) (by rw [List.getElem?_append_left (List.getElem?_eq_some_iff.1 c0).1]; exact c0)
          have hfr := Holds.frozen Ht.out.1 (i * 4)
          have Hset : Hid (Holds (wr.setCell ⟨g1, i * 4, none⟩ (.int .i64 0)) g1 49 (itsC ((tmL ys i).set i { x with k := 0 }) ++ rest)) := Lib.hid (by
            have := Holds.set Ht.out.1 (i * 4) (.int .i64 0)
            rw [List.set_append_left _ _ (List.getElem?_eq_some_iff.1 c0).1, itsC_set _ _ x Hget.out] at this
            exact this)
          clear c0 hx
          by_cases hk1 : x.k = 1
          · have Hs : Hid (tmL ys (i + 1) = tmL ys i) := Lib.hid (Hsame.out (by unfold tameI; rw [if_neg (by simp [hk1])]))
            have hb1 : (x.k != 1) = false := by rw [hk1]; rfl
            go_wp2
            go_roundw
            case rel => exact ⟨i + 1, by omega, by go_num, by rw [Hs.out]; exact Ht.out⟩
            case measure => simp [intOf]; omega
          · have hb1 : (x.k != 1) = true := by rw [bne_iff_ne]; exact hk1
            by_cases hk2 : x.k = 2
            · have Hs : Hid (tmL ys (i + 1) = tmL ys i) := Lib.hid (Hsame.out (by unfold tameI; rw [if_neg (by simp [hk2])]))
              have hb2 : (x.k != 2) = false := by rw [hk2]; rfl
              go_wp2
              go_roundw
              case rel => exact ⟨i + 1, by omega, by go_num, by rw [Hs.out]; exact Ht.out⟩
              case measure => simp [intOf]; omega
            · have hb2 : (x.k != 2) = true := by rw [bne_iff_ne]; exact hk2
              have Hs : Hid (tmL ys (i + 1) = (tmL ys i).set i { x with k := 0 }) := Lib.hid (by rw [Hstep.out]; unfold tameI; rw [if_pos ⟨hk1, hk2⟩])
              go_wp2
              go_roundw
              case rel => exact ⟨i + 1, by omega, by go_num, by rw [Hs.out]; exact ⟨Hset.out, Ht.out.2.setCell (by simp; exact hbg) _⟩⟩
              case measure => simp [intOf]; omega
        · have hin : i = ys.length := by rw [Hl.out]; omega
          have Hend : Hid (TameGot w xs (.returned (.slice (some ⟨g1, 0, none⟩) m cap1)) wr) := Lib.hid (by
            have := Ht.out
            rw [hin, tmL_end, ← Hx.out] at this
            exact ⟨_, m, cap1, rfl, by rw [Hx.out, List.length_map, Hl.out], hm1, irow_holds this.1, this.2⟩)
          clear hin Ht
          go_wp2
          go_ret
          exact Hend.out
end Go.Proofs.Ytdondonmggbmjaa
