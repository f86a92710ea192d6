/-
  The contract of the reference's Made.
-/
import Derived.Test.YtfjgikcbngfhmaaSG
namespace Go.Proofs.Ytfjgikcbngfhmaa
open Go.RowKit

/-- Flags as cells. -/
def boolC (l : List Bool) : List Value := l.map fun b => .bool b
theorem boolC_at (l : List Bool) (i : Nat) (b : Bool) (h : l[i]? = some b) : (boolC l)[i]? = some (.bool b) := by simp [boolC, h]
theorem row_bool {w : World} {A : Option Addr} {l : List Bool} (h : RowAt w A (boolC l)) (i : Nat) (s : Bool) (hs : l[i]? = some s) :
    ∃ b off, A = some (⟨b, off, none⟩ : Addr) ∧ b < w.heap.size ∧ w.cell? ⟨b, off + i, none⟩ = some (.bool s) := h _ _ (boolC_at l i s hs)
def OwnS (w : World) (base : Nat) (v : Value) (l : List Sp) : Prop := w.ownsRow base 23 2 v l.length (spC l)
theorem infoS : (Try.prog.info? 23).map (fun i => (i.zero, i.size, i.bytes)) = some (some (.agg #[.string { data := #[] }, .string { data := #[] }]), 2, 32) := by kernel_rfl
/-- The span that is open, as it stands in the row. -/
def opn (f : Option (List UInt8)) : List Sp := match f with | none => [] | some f => [(f, [])]
@[irreducible] def madeR (p : List Sp) (f : Option (List UInt8)) (r : List (List UInt8 × Bool)) : List Sp := p ++ madeL f r
theorem madeR_0 (r : List (List UInt8 × Bool)) : madeR [] none r = madeL none r := by unfold madeR; rfl
theorem madeR_open (p : List Sp) (e : List UInt8) (r : List (List UInt8 × Bool)) : madeR p none ((e, true) :: r) = madeR p (some e) r := by unfold madeR; rw [madeL, if_pos rfl]
theorem madeR_shut (p : List Sp) (e : List UInt8) (r : List (List UInt8 × Bool)) : madeR p none ((e, false) :: r) = madeR p none r := by unfold madeR; rw [madeL, if_neg (by simp)]
theorem madeR_on (p : List Sp) (f e : List UInt8) (r : List (List UInt8 × Bool)) : madeR p (some f) ((e, true) :: r) = madeR p (some f) r := by unfold madeR; rw [madeL, if_pos rfl]
theorem madeR_close (p : List Sp) (f e : List UInt8) (r : List (List UInt8 × Bool)) : madeR p (some f) ((e, false) :: r) = madeR (p ++ [(f, e)]) none r := by unfold madeR; rw [madeL, if_neg (by simp)]; simp
theorem madeR_end (p : List Sp) (f : Option (List UInt8)) : madeR p f [] = p ++ opn f := by unfold madeR opn; cases f <;> rfl
theorem spC_set (p : List Sp) (f e e' : List UInt8) : (spC (p ++ [(f, e)])).set (p.length * 2 + 1) (.string (bs e')) = spC (p ++ [(f, e')]) := by
  rw [spC_append, spC_append, List.set_append_right _ _ (by rw [spC_length]; omega), spC_length, show p.length * 2 + 1 - p.length * 2 = 1 by omega]; rfl
theorem bs_nil : bs [] = ({ data := #[] } : ByteArray) := by rw [bs_eq]

set_option maxRecDepth 100000 in
set_option maxHeartbeats 4000000 in
theorem refmade_any (r : List (List UInt8 × Bool)) (A A' : Option Addr) (n cap cap' : Nat) (w : World) (hn : r.length = n) (hr : RowAt w A (strC (r.map (·.1)))) (hr' : RowAt w A' (boolC (r.map (·.2)))) (hn2 : n ≤ 400000) :
    Calls Try.prog 37 #[.slice A n cap, .slice A' n cap'] w fun e w' => ∃ v, e = .returned v ∧ OwnS w' w.heap.size v (madeL none r) ∧ (madeL none r).length ≤ n ∧ Below w.heap.size w w' := by
  obtain ⟨i0, hi0, hz0, hz1, hz2⟩ := info_parts infoS
  have Hr := Lib.hid hr
  have Hr' := Lib.hid hr'
  have Hn := Lib.hid hn
  have H0 : Hid (madeL none r = madeR [] none (r.drop 0)) := Lib.hid (by rw [List.drop_zero, madeR_0])
  have Ho0 : Hid (OwnS (w.alloc (.cells #[] 23)) w.heap.size (.slice (some ⟨w.heap.size, 0, none⟩) 0 0) []) := Lib.hid (own_none w 23 2)
  clear hr hr' hn
  go_enter Try.func37, Try.ntmps37
  go_wp2
  go_loopw [5, 6, 7] (fun ov dv iv wr => ∃ i : Nat, ∃ p : List Sp, ∃ f : Option (List UInt8), i ≤ n ∧ iv = .int .i64 i ∧ dv = .bool f.isSome ∧ (p ++ opn f).length ≤ i ∧ OwnS wr w.heap.size ov (p ++ opn f) ∧ Below w.heap.size w wr ∧ madeL none r = madeR p f (r.drop i)) (fun _ _ iv _ => n - (intOf iv).toNat)
  case atStart => exact ⟨0, [], none, by omega, rfl, rfl, by simp [opn], Ho0.out, (Below.refl _ _).alloc (Nat.le_refl _) _, H0.out⟩
  case round =>
    obtain ⟨i, p, f, hi, rfl, rfl, hol, hown, hb, hmade⟩ := hrel
    have Hown := Lib.hid hown
    have Hb := Lib.hid hb
    have Hmade := Lib.hid hmade
    have Hol := Lib.hid hol
    clear hown hb hmade H0 Ho0 hol
    by_cases hlt : i < n
    · have hlt' : (i : Int) < (n : Int) := by omega
      obtain ⟨x, hx⟩ : ∃ x, r[i]? = some x := ⟨_, List.getElem?_eq_getElem (by rw [Hn.out]; exact hlt)⟩
      obtain ⟨y, h⟩ := x
      obtain ⟨b, off, rfl, hbl, c0⟩ := row_str Hr.out i y (by simp [hx])
      obtain ⟨b', off', rfl, hbl', c0'⟩ := row_bool Hr'.out i h (by simp [hx])
      have d0 := (Hb.out.cell (p := ⟨b, off + i, none⟩) hbl).trans c0
      have d1 := (Hb.out.cell (p := ⟨b', off' + i, none⟩) hbl').trans c0'
      have Hc0 := Lib.hid c0
      have Hc1 := Lib.hid c0'
      have Hb0 := Lib.hid hbl
      have Hb1 := Lib.hid hbl'
      have Hdr : Hid (r.drop i = (y, h) :: r.drop (i + 1)) := Lib.hid (by
        obtain ⟨hl, e⟩ := List.getElem?_eq_some_iff.1 hx
        rw [List.drop_eq_getElem_cons hl, e])
      rw [Hdr.out] at Hmade
      clear c0 c0' hx Hdr
      cases f with
      | none =>
        cases h with
        | false =>
          rw [madeR_shut] at Hmade
          go_wp2
          go_roundw
          case rel => exact ⟨i + 1, p, none, by omega, by go_num, rfl, by have := Hol.out; omega, Hown.out, Hb.out, Hmade.out⟩
          case measure => simp [intOf]; omega
        | true =>
          rw [madeR_open] at Hmade
          have Hown0 : Hid (wr.ownsRow w.heap.size 23 2 u5 p.length (spC p)) := Lib.hid (by have := Hown.out; unfold OwnS opn at this; rw [List.append_nil] at this; exact this)
          have Hpl : Hid (p.length ≤ i) := Lib.hid (by have := Hol.out; unfold opn at this; rw [List.append_nil] at this; exact this)
          go_wp2_with (at_builtin; go_loud (refine wpList_push rfl (.tmp 23) (.tmp 29) 26 rfl w.heap.size 23 i0 _ 2 32 Try.underlying26 hi0 hz0 hz1 hz2 rfl (by omega) u5 p.length (spC p) rfl Hown0.out #[.string (bs y), .string { data := #[] }] rfl rfl (by simp [Value.oneCell']) (by have := Hpl.out; omega) (by omega) w Hb.out Hb.out.size ?_); intro g cap2 w2 hown2 hb2; have d2 := (hb2.cell (p := ⟨b', off' + i, none⟩) Hb1.out).trans Hc1.out)
          have Hown2 : Hid (OwnS w2 w.heap.size (.slice (some ⟨g, 0, none⟩) (p.length + 1) cap2) (p ++ opn (some y))) := Lib.hid (by
            unfold OwnS opn
            rw [spC_append, List.length_append, spC_cons, bs_nil]
            exact hown2)
          replace hb2 := Lib.hid hb2
          clear hown2
          go_wp2
          go_roundw
          case rel => exact ⟨i + 1, p, some y, by omega, by go_num, rfl, by have := Hpl.out; simp [opn]; omega, Hown2.out, hb2.out, Hmade.out⟩
          case measure => simp [intOf]; omega
      | some f0 =>
        have Hpl : Hid (p.length + 1 ≤ i) := Lib.hid (by have := Hol.out; simpa [opn] using this)
        cases h with
        | true =>
          rw [madeR_on] at Hmade
          go_wp2
          go_roundw
          case rel => exact ⟨i + 1, p, some f0, by omega, by go_num, rfl, by have := Hol.out; omega, Hown.out, Hb.out, Hmade.out⟩
          case measure => simp [intOf]; omega
        | false =>
          rw [madeR_close] at Hmade
          have hown1 : wr.ownsRow w.heap.size 23 2 u5 (p.length + 1) (spC (p ++ [(f0, [])])) := by have := Hown.out; unfold OwnS opn at this; rw [List.length_append] at this; exact this
          obtain ⟨g, cap2, rfl, hg, hgl⟩ := hown1.form (by omega)
          have Hst := Lib.hid (hown1.stored (p.length * 2 + 1) (.string (bs y))).1
          rw [spC_set] at Hst
          have e1 : wr.cell? ⟨g, p.length * 2 + 1, none⟩ = some (.string (bs [])) := by
            rw [hown1.cellAt _ (by omega)]
            exact (spC_at (p ++ [(f0, [])]) p.length (f0, []) (by simp)).2
          have f1 := hown1.frozenAt (p.length * 2 + 1)
          have Hg := Lib.hid hg
          have Hgb : Hid (b' ≠ g) := Lib.hid (by have := Hb1.out; omega)
          have d2 : ∀ v, (wr.setCell ⟨g, p.length * 2 + 1, none⟩ v).cell? ⟨b', off' + i, none⟩ = some (.bool false) := fun v => by
            rw [← d1]
            exact (((Below.refl w.heap.size wr).setCell (p := ⟨g, p.length * 2 + 1, none⟩) hg v).cell (p := ⟨b', off' + i, none⟩) hbl')
          clear hown1 Hown
          generalize hm : p.length = m at *
          have Hm := Lib.hid hm
          have hmi : m + 1 ≤ i := Hpl.out
          clear hm
          have Hb2 : Hid (Below w.heap.size w (wr.setCell ⟨g, m * 2 + 1, none⟩ (.string (bs y)))) := Lib.hid (Hb.out.setCell (p := ⟨g, m * 2 + 1, none⟩) Hg.out _)
          have Hown2 : Hid (OwnS (wr.setCell ⟨g, m * 2 + 1, none⟩ (.string (bs y))) w.heap.size (.slice (some ⟨g, 0, none⟩) (m + 1) cap2) (p ++ [(f0, y)] ++ opn none)) := Lib.hid (by
            have e : (p ++ [(f0, y)] ++ opn none) = p ++ [(f0, y)] := by unfold opn; simp
            rw [e]
            unfold OwnS
            rw [List.length_append, List.length_singleton, Hm.out]
            exact Hst.out)
          clear Hst hg Hgb
          go_wp2
          go_roundw
          case rel => exact ⟨i + 1, p ++ [(f0, y)], none, by omega, by go_num, rfl, by have := Hm.out; simp [opn]; omega, Hown2.out, Hb2.out, Hmade.out⟩
          case measure => simp [intOf]; omega
    · have hlt' : ¬ (i : Int) < (n : Int) := by omega
      have Hfin : Hid (madeL none r = p ++ opn f) := Lib.hid (by rw [Hmade.out, List.drop_eq_nil_of_le (by rw [Hn.out]; omega), madeR_end])
      go_wp2
      go_ret
      exact ⟨_, rfl, by rw [Hfin.out]; exact Hown.out, by rw [Hfin.out]; have := Hol.out; omega, Hb.out⟩
end Go.Proofs.Ytfjgikcbngfhmaa
