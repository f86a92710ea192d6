/-
  Rows of a call's own, and what is put behind them; the contract of the reference's put.
-/
import Derived.Test.YtfjgikcbngfhmaaSE
import Derived.Deep.AppendLies
import Derived.Deep.RegionLaw
namespace Go.Proofs.Ytfjgikcbngfhmaa
open Go.RowKit

/-- One element more behind a row of the call's own: the new element lies in the newest block. -/
theorem wpList_push {P : Program} {ops : Array Oper} {rest : List Oper} {o : Oper} {a : Act} {Q : Exit → Act → World → Prop} {W : World} (hgd : o.guard = none) (s x : Operand) (t : TypeId)
    (ho : o.op = .call { callee := .builtin .append, args := #[s, x], argTypes := #[t, t] })
    (base : Nat) (e : TypeId) (i : TypeInfo) (z : Value) (k bytes : Nat) (ht : P.underlying t = some (.slice e)) (hi : P.info? e = some i) (hz : i.zero = some z)
    (hsize : i.size = k) (hby : i.bytes = bytes) (hzs : z.cells.size = k) (hk : 0 < k)
    (v : Value) (n : Nat) (xs : List Value) (hs : a.eval s = v) (hown : W.ownsRow base e k v n xs) (news : Array Value) (hx : a.eval x = .slice (some ⟨W.heap.size, 0, none⟩) 1 1)
    (hl : news.size = k) (h1 : ∀ u ∈ news.toList, u.oneCell' = true) (hn : n ≤ 1000000) (hbytes : bytes ≤ 1000) (w0 : World) (hb : Below base w0 W) (hbs : base ≤ W.heap.size)
    (h : ∀ g cap w2, w2.ownsRow base e k (.slice (some ⟨g, 0, none⟩) (n + 1) cap) (n + 1) (xs ++ news.toList) → Below base w0 w2 → wpList P ops Q rest (a.put o.dst (.slice (some ⟨g, 0, none⟩) (n + 1) cap)) w2) :
    wpList P ops Q (o :: rest) a (W.alloc (.cells news e)) := by
  have hal : (W.alloc (.cells news e)).ownsRow base e k v n xs := by
    rcases hown.2 with ⟨hv, h0⟩ | ⟨g, cap, cur, hv, hbg, hh, r⟩
    · exact ⟨hown.1, .inl ⟨hv, h0⟩⟩
    · exact ⟨hown.1, .inr ⟨g, cap, cur, hv, hbg, (Below.heap_alloc W _ g (Array.getElem?_eq_some_iff.1 hh).1).trans hh, r⟩⟩
  refine wpList_append_lies _ hgd s x t ho base e i z k bytes ht hi hz hsize hby hzs hk v n xs hs hal ⟨W.heap.size, 0, none⟩ 1 1 news.toList hx (by simp [hl]) ?_ h1 (by omega) (by unfold maxLen; omega) ?_ (by simp; omega) _ rfl ?_
  · intro j u hu
    have hn : (W.alloc (.cells news e)).heap[W.heap.size]? = some (.cells news e (0, 0)) := by
      show (W.heap.push (Obj.cells news e))[W.heap.size]? = _
      simp
    rw [add_off, Lib.cell_of_heap hn]
    simpa using hu
  · have : (n + 1) * bytes ≤ 1000001 * 1000 := Nat.mul_le_mul (by omega) hbytes
    omega
  · intro g cap w2 hown2 hgrow _ _
    refine h g cap w2 hown2 ?_
    exact (hb.alloc hbs _).grown hgrow (by simp; omega) (fun j hj => (World.ownsRow.lt hal j hj).1)
/-- What a row of the call's own shows. -/
theorem own_row {w : World} {base : Nat} {e : TypeId} {k : Nat} {v : Value} {n : Nat} {cs : List Value} (h : w.ownsRow base e k v n cs) : ∃ A cap, v = .slice A n cap ∧ RowAt w A cs := by
  rcases h.2 with ⟨hv, h0⟩ | ⟨g, cap, cur, hv, hb, hh, hc, hm, hs, ht⟩
  · have : cs = [] := List.eq_nil_of_length_eq_zero (by rw [h.1, h0]; omega)
    subst this
    exact ⟨none, 0, by rw [hv, h0], fun j v hj => by simp at hj⟩
  · refine ⟨some ⟨g, 0, none⟩, cap, hv, fun j u hj => ⟨g, 0, rfl, (Array.getElem?_eq_some_iff.1 hh).1, ?_⟩⟩
    rw [Nat.zero_add, Lib.cell_of_heap hh]
    have hjl : j < n * k := by have := (List.getElem?_eq_some_iff.1 hj).1; rw [h.1] at this; exact this
    rw [← ht, List.getElem?_take_of_lt hjl] at hj
    simpa using hj
theorem own_none (w : World) (e : TypeId) (k : Nat) : (w.alloc (.cells #[] e)).ownsRow w.heap.size e k (.slice (some ⟨w.heap.size, 0, none⟩) 0 0) 0 [] :=
  World.ownsRow_lit w #[] 0 (Nat.le_refl _) (by unfold maxLen; omega) (by simp)

/-- Texts as cells. -/
def strC (l : List (List UInt8)) : List Value := l.map fun s => .string (bs s)
theorem strC_length (l : List (List UInt8)) : (strC l).length = l.length := by simp [strC]
theorem strC_append (l m : List (List UInt8)) : strC (l ++ m) = strC l ++ strC m := by simp [strC]
theorem strC_at (l : List (List UInt8)) (i : Nat) (s : List UInt8) (h : l[i]? = some s) : (strC l)[i]? = some (.string (bs s)) := by simp [strC, h]
theorem row_str {w : World} {A : Option Addr} {l : List (List UInt8)} (h : RowAt w A (strC l)) (i : Nat) (s : List UInt8) (hs : l[i]? = some s) :
    ∃ b off, A = some (⟨b, off, none⟩ : Addr) ∧ b < w.heap.size ∧ w.cell? ⟨b, off + i, none⟩ = some (.string (bs s)) := h _ _ (strC_at l i s hs)
def OwnT (w : World) (base : Nat) (v : Value) (l : List (List UInt8)) : Prop := w.ownsRow base 9 1 v l.length (strC l)
theorem infoT : (Try.prog.info? 9).map (fun i => (i.zero, i.size, i.bytes)) = some (some (.string { data := #[] }), 1, 16) := by kernel_rfl

/-- Behind so many of the list: what is there, and what is to come. -/
@[irreducible] def putR (o : List (List UInt8)) (d : Bool) (r : List (List UInt8)) (s : List UInt8) : List (List UInt8) := o ++ (if d = true then r else putL r s)
theorem putR_0 (l : List (List UInt8)) (s : List UInt8) : putR [] false l s = putL l s := by unfold putR; simp
theorem putR_done (o r : List (List UInt8)) (x s : List UInt8) : putR o true (x :: r) s = putR (o ++ [x]) true r s := by unfold putR; simp
theorem putR_less (o r : List (List UInt8)) (x s : List UInt8) (h : ltL s x = true) : putR o false (x :: r) s = putR (o ++ [s] ++ [x]) true r s := by unfold putR; simp [putL, h]
theorem putR_same (o r : List (List UInt8)) (s : List UInt8) : putR o false (s :: r) s = putR (o ++ [s]) true r s := by unfold putR; simp [putL, ltL_irrefl]
theorem putR_more (o r : List (List UInt8)) (x s : List UInt8) (h : ltL s x = false) (h2 : x ≠ s) : putR o false (x :: r) s = putR (o ++ [x]) false r s := by unfold putR; simp [putL, h, h2]
theorem putR_end (o : List (List UInt8)) (d : Bool) (s : List UInt8) : putR o d [] s = if d = true then o else o ++ [s] := by unfold putR; cases d <;> simp [putL]

set_option maxRecDepth 100000 in
set_option maxHeartbeats 2000000 in
theorem refput_any (l : List (List UInt8)) (A : Option Addr) (n cap : Nat) (s : List UInt8) (w : World) (hn : l.length = n) (hr : RowAt w A (strC l)) (hn2 : n ≤ 400000) :
    Calls Try.prog 41 #[.slice A n cap, .string (bs s)] w fun e w' => ∃ v, e = .returned v ∧ OwnT w' w.heap.size v (putL l s) ∧ Below w.heap.size w w' := by
  obtain ⟨i0, hi0, hz0, hz1, hz2⟩ := info_parts infoT
  have Hr := Lib.hid hr
  have Hn := Lib.hid hn
  have H0 : Hid (putL l s = putR [] false (l.drop 0) s) := Lib.hid (by rw [List.drop_zero, putR_0])
  have Ho0 : Hid (OwnT (w.alloc (.cells #[] 9)) w.heap.size (.slice (some ⟨w.heap.size, 0, none⟩) 0 0) []) := Lib.hid (own_none w 9 1)
  clear hr hn
  go_enter Try.func41, Try.ntmps41
  go_wp2
  go_loopw [5, 6, 7] (fun ov dv iv wr => ∃ i : Nat, ∃ d : Bool, ∃ o : List (List UInt8), i ≤ n ∧ iv = .int .i64 i ∧ dv = .bool d ∧ o.length ≤ 2 * i ∧ OwnT wr w.heap.size ov o ∧ Below w.heap.size w wr ∧ putL l s = putR o d (l.drop i) s) (fun _ _ iv _ => n - (intOf iv).toNat)
  case atStart => exact ⟨0, false, [], by omega, rfl, rfl, by simp, Ho0.out, (Below.refl _ _).alloc (Nat.le_refl _) _, H0.out⟩
  case round =>
    obtain ⟨i, d, o, hi, rfl, rfl, hol, hown, hb, hput⟩ := hrel
    have Hown := Lib.hid hown
    have Hb := Lib.hid hb
    have Hput := Lib.hid hput
    clear hown hb hput H0 Ho0
    by_cases hlt : i < n
    · have hlt' : (i : Int) < (n : Int) := by omega
      obtain ⟨x, hx⟩ : ∃ x, l[i]? = some x := ⟨_, List.getElem?_eq_getElem (by rw [Hn.out]; exact hlt)⟩
      obtain ⟨b, off, rfl, hbl, c0⟩ := row_str Hr.out i x hx
      have d0 := (Hb.out.cell (p := ⟨b, off + i, none⟩) hbl).trans c0
      have Hdr : Hid (l.drop i = x :: l.drop (i + 1)) := Lib.hid (by
        obtain ⟨hl, rfl⟩ := List.getElem?_eq_some_iff.1 hx
        rw [List.drop_eq_getElem_cons hl])
      have Hc0 := Lib.hid c0
      have Hb0 := Lib.hid hbl
      rw [Hdr.out] at Hput
      clear c0 hx
      cases d with
      | true =>
        rw [putR_done] at Hput
        cases he : (bs x).toList == (bs s).toList with
        | true =>
          go_wp2_with (at_builtin; go_loud (refine wpList_push rfl (.tmp 35) (.tmp 40) 38 rfl w.heap.size 9 i0 _ 1 16 Try.underlying38 hi0 hz0 hz1 hz2 rfl (by omega) u5 o.length (strC o) rfl Hown.out #[.string (bs x)] rfl rfl (by simp [Value.oneCell']) (by omega) (by omega) w Hb.out Hb.out.size ?_); intro g cap w2 hown2 hb2)
          have Hown2 : Hid (OwnT w2 w.heap.size (.slice (some ⟨g, 0, none⟩) (o.length + 1) cap) (o ++ [x])) := Lib.hid (by
            unfold OwnT
            rw [strC_append, List.length_append]
            exact hown2)
          replace hb2 := Lib.hid hb2
          clear hown2
          go_wp2
          go_roundw
          case rel => exact ⟨i + 1, true, o ++ [x], by omega, by go_num, rfl, by simp; omega, Hown2.out, hb2.out, Hput.out⟩
          case measure => simp [intOf]; omega
        | false =>
          go_wp2_with (at_builtin; go_loud (refine wpList_push rfl (.tmp 35) (.tmp 40) 38 rfl w.heap.size 9 i0 _ 1 16 Try.underlying38 hi0 hz0 hz1 hz2 rfl (by omega) u5 o.length (strC o) rfl Hown.out #[.string (bs x)] rfl rfl (by simp [Value.oneCell']) (by omega) (by omega) w Hb.out Hb.out.size ?_); intro g cap w2 hown2 hb2)
          have Hown2 : Hid (OwnT w2 w.heap.size (.slice (some ⟨g, 0, none⟩) (o.length + 1) cap) (o ++ [x])) := Lib.hid (by
            unfold OwnT
            rw [strC_append, List.length_append]
            exact hown2)
          replace hb2 := Lib.hid hb2
          clear hown2
          go_wp2
          go_roundw
          case rel => exact ⟨i + 1, true, o ++ [x], by omega, by go_num, rfl, by simp; omega, Hown2.out, hb2.out, Hput.out⟩
          case measure => simp [intOf]; omega
      | false =>
        cases hlx : Op.bytesLess (bs s).toList (bs x).toList with
        | true =>
          have hne : ((bs x).toList == (bs s).toList) = false := by
            rw [less_bs] at hlx
            rw [bs_toList, bs_toList]
            refine beq_eq_false_iff_ne.2 fun e => ?_
            rw [e, ltL_irrefl] at hlx; cases hlx
          have Hp2 : Hid (putL l s = putR (o ++ [s] ++ [x]) true (l.drop (i + 1)) s) := Lib.hid (by rw [Hput.out, putR_less _ _ _ _ (by rw [← less_bs]; exact hlx)])
          clear Hput
          go_wp2_with (first
            | (at_builtin; refine wpList_push rfl (.tmp 25) (.tmp 27) 38 rfl w.heap.size 9 i0 _ 1 16 Try.underlying38 hi0 hz0 hz1 hz2 rfl (by omega) u5 o.length (strC o) rfl Hown.out #[.string (bs s)] rfl rfl (by simp [Value.oneCell']) (by omega) (by omega) w Hb.out Hb.out.size ?_; intro g1 cap1 w1 hown1 hb1; have Hown1 := Lib.hid hown1; have d1 := (hb1.cell (p := ⟨b, off + i, none⟩) Hb0.out).trans Hc0.out; replace hb1 := Lib.hid hb1; clear hown1)
            | (at_builtin; refine wpList_push rfl (.tmp 35) (.tmp 40) 38 rfl w.heap.size 9 i0 _ 1 16 Try.underlying38 hi0 hz0 hz1 hz2 rfl (by omega) (.slice (some ⟨g1, 0, none⟩) (o.length + 1) cap1) (o.length + 1) (strC o ++ [.string (bs s)]) rfl Hown1.out #[.string (bs x)] rfl rfl (by simp [Value.oneCell']) (by omega) (by omega) w hb1.out hb1.out.size ?_; intro g cap w2 hown2 hb2))
          have Hown2 : Hid (OwnT w2 w.heap.size (.slice (some ⟨g, 0, none⟩) (o.length + 1 + 1) cap) (o ++ [s] ++ [x])) := Lib.hid (by
            unfold OwnT
            rw [strC_append, strC_append, List.length_append, List.length_append]
            exact hown2)
          replace hb2 := Lib.hid hb2
          clear hown2
          go_wp2
          go_roundw
          case rel => exact ⟨i + 1, true, o ++ [s] ++ [x], by omega, by go_num, rfl, by simp; omega, Hown2.out, hb2.out, Hp2.out⟩
          case measure => simp [intOf]; omega
        | false =>
          cases he : (bs x).toList == (bs s).toList with
          | true =>
            have hxs : x = s := by rw [bs_toList, bs_toList] at he; exact eq_of_beq he
            have Hp2 : Hid (putL l s = putR (o ++ [x]) true (l.drop (i + 1)) s) := Lib.hid (by rw [Hput.out, hxs, putR_same])
            clear Hput hxs
            go_wp2_with (at_builtin; go_loud (refine wpList_push rfl (.tmp 35) (.tmp 40) 38 rfl w.heap.size 9 i0 _ 1 16 Try.underlying38 hi0 hz0 hz1 hz2 rfl (by omega) u5 o.length (strC o) rfl Hown.out #[.string (bs x)] rfl rfl (by simp [Value.oneCell']) (by omega) (by omega) w Hb.out Hb.out.size ?_); intro g cap w2 hown2 hb2)
            have Hown2 : Hid (OwnT w2 w.heap.size (.slice (some ⟨g, 0, none⟩) (o.length + 1) cap) (o ++ [x])) := Lib.hid (by
              unfold OwnT
              rw [strC_append, List.length_append]
              exact hown2)
            replace hb2 := Lib.hid hb2
            clear hown2
            go_wp2
            go_roundw
            case rel => exact ⟨i + 1, true, o ++ [x], by omega, by go_num, rfl, by simp; omega, Hown2.out, hb2.out, Hp2.out⟩
            case measure => simp [intOf]; omega
          | false =>
            have hxs : x ≠ s := by rw [bs_toList, bs_toList] at he; exact beq_eq_false_iff_ne.1 he
            have Hp2 : Hid (putL l s = putR (o ++ [x]) false (l.drop (i + 1)) s) := Lib.hid (by rw [Hput.out, putR_more _ _ _ _ (by rw [← less_bs]; exact hlx) hxs])
            clear Hput hxs
            go_wp2_with (at_builtin; go_loud (refine wpList_push rfl (.tmp 35) (.tmp 40) 38 rfl w.heap.size 9 i0 _ 1 16 Try.underlying38 hi0 hz0 hz1 hz2 rfl (by omega) u5 o.length (strC o) rfl Hown.out #[.string (bs x)] rfl rfl (by simp [Value.oneCell']) (by omega) (by omega) w Hb.out Hb.out.size ?_); intro g cap w2 hown2 hb2)
            have Hown2 : Hid (OwnT w2 w.heap.size (.slice (some ⟨g, 0, none⟩) (o.length + 1) cap) (o ++ [x])) := Lib.hid (by
              unfold OwnT
              rw [strC_append, List.length_append]
              exact hown2)
            replace hb2 := Lib.hid hb2
            clear hown2
            go_wp2
            go_roundw
            case rel => exact ⟨i + 1, false, o ++ [x], by omega, by go_num, rfl, by simp; omega, Hown2.out, hb2.out, Hp2.out⟩
            case measure => simp [intOf]; omega
    · have hlt' : ¬ (i : Int) < (n : Int) := by omega
      have Hfin : Hid (putL l s = if d = true then o else o ++ [s]) := Lib.hid (by rw [Hput.out, List.drop_eq_nil_of_le (by rw [Hn.out]; omega), putR_end])
      clear Hput
      cases d with
      | true =>
        go_wp2
        go_ret
        exact ⟨_, rfl, by have e := Hfin.out; simp only [if_true] at e; rw [e]; exact Hown.out, Hb.out⟩
      | false =>
        go_wp2_with (at_builtin; go_loud (refine wpList_push rfl (.tmp 44) (.tmp 46) 38 rfl w.heap.size 9 i0 _ 1 16 Try.underlying38 hi0 hz0 hz1 hz2 rfl (by omega) u5 o.length (strC o) rfl Hown.out #[.string (bs s)] rfl rfl (by simp [Value.oneCell']) (by omega) (by omega) w Hb.out Hb.out.size ?_); intro g cap w2 hown2 hb2)
        have Hown2 : Hid (OwnT w2 w.heap.size (.slice (some ⟨g, 0, none⟩) (o.length + 1) cap) (o ++ [s])) := Lib.hid (by
          unfold OwnT
          rw [strC_append, List.length_append]
          exact hown2)
        replace hb2 := Lib.hid hb2
        clear hown2
        go_wp2
        go_ret
        exact ⟨_, rfl, by have e := Hfin.out; simp only [Bool.false_eq_true, if_false] at e; rw [e]; exact Hown2.out, hb2.out⟩
end Go.Proofs.Ytfjgikcbngfhmaa
