/-
  The contract of the reference's Covers.
-/
import Derived.Test.YtfjgikcbngfhmaaSI
import Derived.Deep.CutRange
import Derived.BigQuiet
namespace Go.Proofs.Ytfjgikcbngfhmaa
open Go.RowKit

/-- A world of a class. -/
structure InW (C : World → Prop) where
  wd : World
  ok : C wd
/-- A region whose operations and callees keep the world in a class of worlds, and read the same in each of it: walked once, as it is written. -/
theorem wp_region_quiet_in {P : Program} {id : Nat} {Q : Exit → Act → World → Prop} {a : Act} {w : World} {l : List Oper} (C : World → Prop) (hm : P.follows .mixedOrders = true) (hB : Region.lexB .any l.toArray = true)
    (h0 : C w.drew) (h : wpQuiet P l.toArray (fun w' => ∃ x : InW C, w' = x.wd) (fun a' => ∀ w', (∃ x : InW C, w' = x.wd) → Q .normal a' w') l a) : (Code.region id l.toArray true).wp P Q a w :=
  wp_region_quiet (C := fun w' => ∃ x : InW C, w' = x.wd) hm hB ⟨⟨w.drew, h0⟩, rfl⟩ (by simpa using h)
theorem run_append_none {P : Program} (w : World) (t ty e : TypeId) (i : TypeInfo) (ht : P.underlying t = some (.slice e)) (hi : P.info? e = some i) (g : Nat) (A : Option Addr) (c : Nat) :
    (Builtin.append_ #[t, t] ty #[.slice (some ⟨g, 0, none⟩) 0 0, .slice A 0 c]).run P w = .ok (.slice (some ⟨g, 0, none⟩) 0 0) w := by
  cases A <;> simp [Builtin.append_, run_underlying ht, sizeOf, typeInfo, hi, Builtin.lenOf, Builtin.firstCells, storeCells, loadCells, loadCellsFrom]
/-- At a step of a region that draws its order: nothing appended to nothing. -/
theorem step_append_none {P : Program} {w : World} {ops : Array Oper} {o : Oper} {a : Act} {K : Act → World → Prop} {Q : Exit → Act → World → Prop} {E : Prop} (hgd : o.guard = none) (s x : Operand) (t : TypeId)
    (ho : o.op = .call { callee := .builtin .append, args := #[s, x], argTypes := #[t, t] }) (e : TypeId) (i : TypeInfo) (ht : P.underlying t = some (.slice e)) (hi : P.info? e = some i)
    (g : Nat) (A : Option Addr) (c : Nat) (hs : a.eval s = .slice (some ⟨g, 0, none⟩) 0 0) (hx : a.eval x = .slice A 0 c)
    (h : K (a.put o.dst (.slice (some ⟨g, 0, none⟩) 0 0)) w) : if Region.wanted o (yielded ops a.tmps) = true then Oper.wp P o a w K Q else E := by
  have hw : Region.wanted o (yielded ops a.tmps) = true := by simp [Region.wanted, hgd]
  rw [if_pos hw]
  have hr := run_append_none (P := P) w t o.type e i ht hi g A c
  unfold Oper.wp execOp
  simp only [ho, resolve, invoke, builtin, Sem.run_bind, Sem.run_pure, Result.andThen_ok, List.map_toArray, List.map_cons, List.map_nil, hs, hx, hr]
  exact h
theorem own_alloc {w : World} {B : Nat} {e : TypeId} {k : Nat} {v : Value} {n : Nat} {cs : List Value} (h : w.ownsRow B e k v n cs) (o : Obj) : (w.alloc o).ownsRow B e k v n cs :=
  own_below h ((Below.refl _ _).alloc (Nat.le_refl _) o)

theorem own_drew {w : World} {B : Nat} {e : TypeId} {k : Nat} {v : Value} {n : Nat} {cs : List Value} (h : w.ownsRow B e k v n cs) : w.drew.ownsRow B e k v n cs := h
theorem row_add (b off i : Nat) : (⟨b, off, none⟩ : Addr).add i = ⟨b, off + i, none⟩ := by unfold Addr.add; split <;> simp_all
theorem own_row' {w : World} {base : Nat} {e : TypeId} {k : Nat} {A : Option Addr} {n cap : Nat} {cs : List Value} (h : w.ownsRow base e k (.slice A n cap) n cs) : RowAt w A cs := by
  obtain ⟨A', cap', e, hr⟩ := own_row h
  injection e with e1
  rw [e1]; exact hr
theorem row_new (W : World) (cs : Array Value) (e : TypeId) : RowAt (W.alloc (.cells cs e)) (some ⟨W.heap.size, 0, none⟩) cs.toList := fun j v hj => by
  have hn : (W.alloc (.cells cs e)).heap[W.heap.size]? = some (.cells cs e (0, 0)) := by
    show (W.heap.push (Obj.cells cs e))[W.heap.size]? = _
    simp
  refine ⟨_, 0, rfl, (Array.getElem?_eq_some_iff.1 hn).1, ?_⟩
  rw [Nat.zero_add, Lib.cell_of_heap hn]
  simpa using hj
theorem row_kept {W W' : World} {b : Nat} {cs : List Value} (h : RowAt W (some ⟨b, 0, none⟩) cs) (hk : W'.heap[b]? = W.heap[b]?) : RowAt W' (some ⟨b, 0, none⟩) cs := fun j v hj => by
  obtain ⟨b', off, e, hl, hc⟩ := h j v hj
  injection e with e
  injection e with e1 e2
  subst e1
  subst e2
  refine ⟨_, 0, rfl, ?_, ?_⟩
  · have : b < W'.heap.size := by
      obtain ⟨x, hx⟩ : ∃ x, W.heap[b]? = some x := ⟨_, Array.getElem?_eq_getElem hl⟩
      rw [hx] at hk
      exact (Array.getElem?_eq_some_iff.1 hk).1
    exact this
  · rw [← hc]
    unfold World.cell?
    rw [hk]
theorem row_new2 (W : World) (o : Obj) (cs : Array Value) (e : TypeId) : RowAt ((W.alloc o).alloc (.cells cs e)) (some ⟨W.heap.size + 1, 0, none⟩) cs.toList := by
  have := row_new (W.alloc o) cs e
  rw [show (W.alloc o).heap.size = W.heap.size + 1 by simp] at this
  exact this
theorem own_none2 (W : World) (o : Obj) (e : TypeId) (k : Nat) : ((W.alloc o).alloc (.cells #[] e)).ownsRow W.heap.size e k (.slice (some ⟨W.heap.size + 1, 0, none⟩) 0 0) 0 [] := by
  have := own_none (W.alloc o) e k
  rw [show (W.alloc o).heap.size = W.heap.size + 1 by simp] at this
  exact own_base this (by omega)
/-- A step of a region that draws: a row that lies, behind an empty row of the call's own. -/
theorem step_append_row {P : Program} {w : World} {ops : Array Oper} {o : Oper} {a : Act} {K : Act → World → Prop} {Q : Exit → Act → World → Prop} {E : Prop} (hgd : o.guard = none) (s x : Operand) (t : TypeId)
    (ho : o.op = .call { callee := .builtin .append, args := #[s, x], argTypes := #[t, t] })
    (base : Nat) (e : TypeId) (i : TypeInfo) (z : Value) (k bytes : Nat) (ht : P.underlying t = some (.slice e)) (hi : P.info? e = some i) (hz : i.zero = some z)
    (hsize : i.size = k) (hby : i.bytes = bytes) (hzs : z.cells.size = k) (hk : 0 < k)
    (g : Nat) (hs : a.eval s = .slice (some ⟨g, 0, none⟩) 0 0) (hown : w.ownsRow base e k (.slice (some ⟨g, 0, none⟩) 0 0) 0 [])
    (A : Option Addr) (n c : Nat) (cs : List Value) (hx : a.eval x = .slice A n c) (hrow : RowAt w A cs) (hl : cs.length = n * k) (h1 : ∀ u ∈ cs, u.oneCell' = true) (hn : n ≤ 1000000) (hbytes : bytes ≤ 1000)
    (w0 : World) (hb : Below base w0 w) (hbs : base ≤ w.heap.size)
    (h : ∀ g' cap' w', w'.ownsRow base e k (.slice (some ⟨g', 0, none⟩) n cap') n cs → Below base w0 w' → (∀ j, j < w.heap.size → j ≠ g → w'.heap[j]? = w.heap[j]?) → K (a.put o.dst (.slice (some ⟨g', 0, none⟩) n cap')) w') :
    if Region.wanted o (yielded ops a.tmps) = true then Oper.wp P o a w K Q else E := by
  by_cases h0 : n = 0
  · subst h0
    have hcs : cs = [] := List.eq_nil_of_length_eq_zero (by omega)
    subst hcs
    exact step_append_none hgd s x t ho e i ht hi g A c hs hx (h g 0 w hown hb (fun _ _ _ => rfl))
  · obtain ⟨u0, hu0⟩ : ∃ u0, cs[0]? = some u0 := ⟨_, List.getElem?_eq_getElem (by rw [hl]; exact Nat.mul_pos (by omega) hk)⟩
    obtain ⟨b, off, hA, _, _⟩ := hrow 0 u0 hu0
    refine step_append_lies _ hgd s x t ho base e i z k bytes ht hi hz hsize hby hzs hk _ 0 [] hs hown ⟨b, off, none⟩ n c cs (by rw [hx, hA]) hl ?_ h1 (by omega) (by unfold maxLen; omega) ?_ hbs _ rfl ?_
    · intro j u hu
      obtain ⟨b', off', hA', _, hc⟩ := hrow j u hu
      rw [hA] at hA'
      injection hA' with hA'
      injection hA' with e1 e2
      subst e1
      subst e2
      rw [row_add]; exact hc
    · have : (0 + n) * bytes ≤ 1000000 * 1000 := Nat.mul_le_mul (by omega) hbytes
      omega
    · intro g' cap' w' hown' hgrow _ _
      simp only [Nat.zero_add, List.nil_append] at hown'
      refine (by simpa using h g' cap' w' hown' (hb.grown hgrow hbs (fun j hj => (World.ownsRow.lt hown j hj).1)) (fun j hj hne => hgrow.block j hj (by simpa [Value.ownBlock] using hne)))
/-- A step of a region that draws: one element more behind a row of the call's own. -/
theorem step_push {P : Program} {w : World} {ops : Array Oper} {o : Oper} {a : Act} {K : Act → World → Prop} {Q : Exit → Act → World → Prop} {E : Prop} (hgd : o.guard = none) (s x : Operand) (t : TypeId)
    (ho : o.op = .call { callee := .builtin .append, args := #[s, x], argTypes := #[t, t] })
    (base : Nat) (e : TypeId) (i : TypeInfo) (z : Value) (k bytes : Nat) (ht : P.underlying t = some (.slice e)) (hi : P.info? e = some i) (hz : i.zero = some z)
    (hsize : i.size = k) (hby : i.bytes = bytes) (hzs : z.cells.size = k) (hk : 0 < k)
    (v : Value) (n : Nat) (xs : List Value) (hs : a.eval s = v) (hown : w.ownsRow base e k v n xs)
    (b c : Nat) (cs : List Value) (hx : a.eval x = .slice (some ⟨b, 0, none⟩) 1 c) (hrow : RowAt w (some ⟨b, 0, none⟩) cs) (hl : cs.length = k) (h1 : ∀ u ∈ cs, u.oneCell' = true) (hn : n ≤ 1000000) (hbytes : bytes ≤ 1000)
    (w0 : World) (hb : Below base w0 w) (hbs : base ≤ w.heap.size)
    (h : ∀ g cap w', w'.ownsRow base e k (.slice (some ⟨g, 0, none⟩) (n + 1) cap) (n + 1) (xs ++ cs) → Below base w0 w' → K (a.put o.dst (.slice (some ⟨g, 0, none⟩) (n + 1) cap)) w') :
    if Region.wanted o (yielded ops a.tmps) = true then Oper.wp P o a w K Q else E := by
  refine step_append_lies _ hgd s x t ho base e i z k bytes ht hi hz hsize hby hzs hk v n xs hs hown ⟨b, 0, none⟩ 1 c cs hx (by omega) ?_ h1 (by omega) (by unfold maxLen; omega) ?_ hbs _ rfl ?_
  · intro j u hu
    obtain ⟨b', off', hA', _, hc⟩ := hrow j u hu
    injection hA' with hA'
    injection hA' with e1 e2
    subst e1
    subst e2
    rw [row_add]; exact hc
  · have : (n + 1) * bytes ≤ 1000001 * 1000 := Nat.mul_le_mul (by omega) hbytes
    omega
  · intro g cap w' hown' hgrow _ _
    exact h g cap w' hown' (hb.grown hgrow hbs (fun j hj => (World.ownsRow.lt hown j hj).1))
theorem spC_one (l : List Sp) : ∀ u ∈ spC l, u.oneCell' = true := by
  intro u hu
  obtain ⟨s, _, h⟩ := List.mem_flatMap.1 hu
  simp only [List.mem_cons, List.not_mem_nil, or_false] at h
  rcases h with rfl | rfl <;> rfl

set_option maxRecDepth 100000 in
set_option maxHeartbeats 8000000 in
theorem refcovers_any (l : List Sp) (A : Option Addr) (n cap : Nat) (s : Sp) (w : World) (hn : l.length = n) (hr : RowAt w A (spC l)) (hn2 : n ≤ 99999) :
    Calls Try.prog 19 #[.slice A n cap, spV s] w fun e w' => e = .returned (.bool (coversL l s)) ∧ Below w.heap.size w w' := by
  have Hv := Lib.hid (refvalid_any s)
  unfold spV at *
  cases hv : validL s with
  | false =>
    rw [hv] at Hv
    have Hc : Hid (coversL l s = false) := Lib.hid (by unfold coversL; rw [hv]; rfl)
    go_enter Try.func19, Try.ntmps19
    go_wp2_with (go_at_call 13; refine (Hv.out _).mono ?_; rintro e w1 ⟨rfl, hb1⟩; replace hb1 := Lib.hid (((Below.refl _ _).alloc (Nat.le_refl _) _).trans (hb1.mono (by simp)) : Below w.heap.size w w1))
    go_ret
    exact ⟨by rw [Hc.out]; rfl, hb1.out⟩
  | true =>
    obtain ⟨i0, hi0, hz0, hz1, hz2⟩ := info_parts infoS
    rw [hv] at Hv
    have Hn := Lib.hid hn
    have Hr := Lib.hid hr
    have Hc : Hid (coversL l s = (endsL (l ++ [s])).all fun e => !(hasL s e) || anyL l e) := Lib.hid (by unfold coversL; rw [hv]; rfl)
    have Hl1 : Hid ((l ++ [s]).length = n + 1) := Lib.hid (by rw [List.length_append, hn]; rfl)
    have Hsp : Hid (spC l ++ [.string (bs s.1), .string (bs s.2)] = spC (l ++ [s])) := Lib.hid (by rw [spC_append]; rfl)
    have Hsl : Hid ((spC l).length = n * 2) := Lib.hid (by rw [spC_length, hn])
    clear hn hr hv
    go_enter Try.func19, Try.ntmps19
    obtain ⟨wb, hwb⟩ : ∃ wb, wb = w.alloc (.cells #[.string (bs s.1), .string (bs s.2)] 23) := ⟨_, rfl⟩
    have Hbx : Hid (RowAt wb (some ⟨w.heap.size, 0, none⟩) [.string (bs s.1), .string (bs s.2)] ∧ Below w.heap.size w wb) := Lib.hid (by rw [hwb]; exact ⟨row_new _ _ _, (Below.refl _ _).alloc (Nat.le_refl _) _⟩)
    go_wp2_with (go_at_call 13; rw [← hwb]; refine (Hv.out _).mono ?_; rintro e w1 ⟨rfl, hb1⟩)
    have Hb1 : Hid (Below w.heap.size w w1) := Lib.hid (Hbx.out.2.trans (hb1.mono Hbx.out.2.size))
    have Hrow1 : Hid (RowAt w1 A (spC l)) := Lib.hid (Hr.out.below Hb1.out (Nat.le_refl _))
    have Hbox : Hid (RowAt w1 (some ⟨w.heap.size, 0, none⟩) [.string (bs s.1), .string (bs s.2)]) := Lib.hid (Hbx.out.1.below hb1 (Nat.le_refl _))
    have cc : w.heap.size < w1.heap.size ∧ w1.cell? ⟨w.heap.size, 0, none⟩ = some (.string (bs s.1)) ∧ w1.cell? ⟨w.heap.size, 0 + 1, none⟩ = some (.string (bs s.2)) := by
      obtain ⟨b, off, e, hl, h0⟩ := Hbox.out 0 _ rfl
      obtain ⟨b', off', e', _, h1⟩ := Hbox.out 1 _ rfl
      injection e with e; injection e with e1 e2; subst e1; subst e2
      injection e' with e'; injection e' with e1 e2; subst e1; subst e2
      exact ⟨hl, h0, h1⟩
    obtain ⟨hlt0, c0, c1⟩ := cc
    have Hc01 := Lib.hid (And.intro c0 c1)
    have Hlt0 := Lib.hid hlt0
    clear hb1 hwb Hbx Hr hlt0
    generalize hB : w.heap.size = B at *
    go_cut [5] from 10 to 16 (fun ev wx => OwnT wx w1.heap.size ev (endsL (l ++ [s])) ∧ (endsL (l ++ [s])).length ≤ 1 + 2 * (n + 1) ∧ Below w1.heap.size w1 wx)
    case first =>
      go_region_held3 (fun w' => w'.cell? ⟨B, 0, none⟩ = some (.string (bs s.1)) ∧ w'.cell? ⟨B, 0 + 1, none⟩ = some (.string (bs s.2)))
        (first
          | exact ⟨c0, c1⟩
          | exact ⟨(hb6.out.cell (p := ⟨B, 0, none⟩) (Nat.lt_of_lt_of_le Hlt0.out hb5.out.size)).trans ((hb5.out.cell (p := ⟨B, 0, none⟩) Hlt0.out).trans Hc01.out.1), (hb6.out.cell (p := ⟨B, 0 + 1, none⟩) (Nat.lt_of_lt_of_le Hlt0.out hb5.out.size)).trans ((hb5.out.cell (p := ⟨B, 0 + 1, none⟩) Hlt0.out).trans Hc01.out.2)⟩
          | exact ⟨(hb5.out.cell (p := ⟨B, 0, none⟩) Hlt0.out).trans Hc01.out.1, (hb5.out.cell (p := ⟨B, 0 + 1, none⟩) Hlt0.out).trans Hc01.out.2⟩
          | exact ⟨(hb4.out.cell (p := ⟨B, 0, none⟩) Hlt0.out).trans Hc01.out.1, (hb4.out.cell (p := ⟨B, 0 + 1, none⟩) Hlt0.out).trans Hc01.out.2⟩
          | exact ⟨(((hb4.out.alloc hb4.out.size _)).cell (p := ⟨B, 0, none⟩) Hlt0.out).trans Hc01.out.1, (((hb4.out.alloc hb4.out.size _)).cell (p := ⟨B, 0 + 1, none⟩) Hlt0.out).trans Hc01.out.2⟩
          | exact ⟨(((Below.refl w1.heap.size w1).alloc (Nat.le_refl _) _).drew.cell (p := ⟨B, 0, none⟩) Hlt0.out).trans Hc01.out.1, (((Below.refl w1.heap.size w1).alloc (Nat.le_refl _) _).drew.cell (p := ⟨B, 0 + 1, none⟩) Hlt0.out).trans Hc01.out.2⟩
          | exact ⟨((((Below.refl w1.heap.size w1).alloc (Nat.le_refl _) _).alloc (by first | (simp; done) | (simp; omega)) _).drew.cell (p := ⟨B, 0, none⟩) Hlt0.out).trans Hc01.out.1, ((((Below.refl w1.heap.size w1).alloc (Nat.le_refl _) _).alloc (by first | (simp; done) | (simp; omega)) _).drew.cell (p := ⟨B, 0 + 1, none⟩) Hlt0.out).trans Hc01.out.2⟩
          | go_keep)
        (first
          | (go_at_call 29; refine (refends_any (l ++ [s]) (some ⟨g5, 0, none⟩) (n + 1) cap5 w5 Hl1.out (by rw [← Hsp.out]; exact own_row' hown5.out) (by omega)).mono ?_; rintro e w6 ⟨v6, rfl, ho6, hl6, hb6⟩; replace ho6 := Lib.hid ho6; replace hl6 := Lib.hid hl6; replace hb6 := Lib.hid hb6)
          | (refine step_push (by rfl) _ _ _ (by rfl) w1.heap.size 23 i0 _ 2 32 Try.underlying26 hi0 hz0 hz1 hz2 rfl (by omega) (.slice (some ⟨g4, 0, none⟩) n cap4) n (spC l) (by rfl) (by first | exact hown4.out | exact own_alloc hown4.out _) _ 1 [.string (bs s.1), .string (bs s.2)] (by rfl)
              (by first | exact row_new _ _ _ | exact row_kept (row_new2 _ _ _ _) (hk4.out _ (by first | (simp; done) | (simp; omega)) (by first | (simp; done) | omega)) | exact row_kept (row_new _ _ _) ((hk4.out _ (by first | (simp; done) | (simp; omega)) (by first | (simp; done) | omega)).trans (Lib.alloc_old _ _ _ (by first | (simp; done) | (simp; omega))))) rfl (by simp [Value.oneCell']) (by omega) (by omega) w1 (by first | exact hb4.out | exact hb4.out.alloc hb4.out.size _) (by first | exact hb4.out.size | exact Nat.le_trans hb4.out.size (by first | (simp; done) | (simp; omega))) ?_; intro g5 cap5 w5 hown5 hb5; replace hown5 := Lib.hid hown5; replace hb5 := Lib.hid hb5)
          | (refine step_append_row (by rfl) _ _ _ (by rfl) w1.heap.size 23 i0 _ 2 32 Try.underlying26 hi0 hz0 hz1 hz2 rfl (by omega) _ (by rfl) (by first | exact own_drew (own_none _ 23 2) | exact own_drew (own_alloc (own_none _ 23 2) _) | exact own_drew (own_none2 _ _ 23 2)) A n cap (spC l) (by rfl)
              (Hrow1.out.below (B := w1.heap.size) (by first | exact ((Below.refl _ _).alloc (Nat.le_refl _) _).drew | exact (((Below.refl _ _).alloc (Nat.le_refl _) _).alloc (by first | (simp; done) | (simp; omega)) _).drew) (Nat.le_refl _)) Hsl.out (spC_one l) (by omega) (by omega) w1 (by first | exact ((Below.refl _ _).alloc (Nat.le_refl _) _).drew | exact (((Below.refl _ _).alloc (Nat.le_refl _) _).alloc (by first | (simp; done) | (simp; omega)) _).drew) (by first | (simp; done) | (simp; omega)) ?_; intro g4 cap4 w4 hown4 hb4 hk4; replace hown4 := Lib.hid hown4; replace hb4 := Lib.hid hb4; replace hk4 := Lib.hid hk4))
      all_goals
        have Hb6 : Hid (Below w1.heap.size w1 w6) := Lib.hid (hb5.out.trans (hb6.out.mono hb5.out.size))
        have Ho6 : Hid (OwnT w6 w1.heap.size v6 (endsL (l ++ [s]))) := Lib.hid (own_base ho6.out hb5.out.size)
        clear hb6 hb5 hb4 hk4 hown4 hown5 ho6
        go_wp2_with fail
        go_meet
        exact ⟨Ho6.out, hl6.out, Hb6.out⟩
    case rest =>
      obtain ⟨ho, hl, hb⟩ := hcut
      obtain ⟨A1, cap1, rfl, hr1⟩ := own_row ho
      have Hr1 := Lib.hid hr1
      have HB : Hid (Below B w wc) := Lib.hid (Hb1.out.trans (hb.mono (by have := Hb1.out.size; omega)))
      have HrA : Hid (RowAt wc A (spC l)) := Lib.hid (Hrow1.out.below hb (Nat.le_refl _))
      have k0 := (hb.cell (p := ⟨B, 0, none⟩) Hlt0.out).trans Hc01.out.1
      have k1 := (hb.cell (p := ⟨B, 0 + 1, none⟩) Hlt0.out).trans Hc01.out.2
      have HBw : Hid (B < wc.heap.size) := Lib.hid (Nat.lt_of_lt_of_le Hlt0.out hb.size)
      have HK := Lib.hid (And.intro k0 k1)
      generalize endsL (l ++ [s]) = E at *
      obtain ⟨m, hm⟩ : ∃ m, m = E.length := ⟨_, rfl⟩
      rw [← hm] at hl
      rw [← hm]
      have Hm := Lib.hid hm
      have hml : m ≤ 400000 := by omega
      clear ho hl hb hr1 hm k0 k1 Hb1 Hrow1 Hbox c0 c1 Hc01 Hlt0 Hv
      go_wp2_with fail
      go_loopw [6] (fun iv wr => ∃ i : Nat, i ≤ m ∧ iv = .int .i64 i ∧ Below wc.heap.size wc wr ∧ coversL l s = (E.drop i).all fun e => !(hasL s e) || anyL l e) (fun iv _ => m - (intOf iv).toNat)
      case atStart => exact ⟨0, by omega, rfl, Below.refl _ _, by rw [List.drop_zero]; exact Hc.out⟩
      case round =>
        obtain ⟨i, hi, rfl, hb, hc⟩ := hrel
        have Hb := Lib.hid hb
        have Hc2 := Lib.hid hc
        clear hb hc
        by_cases hlt : i < m
        · have hlt' : (i : Int) < (m : Int) := by omega
          have hi0 : (0 : Int) ≤ (i : Int) := by omega
          obtain ⟨x, hx⟩ : ∃ x, E[i]? = some x := ⟨_, List.getElem?_eq_getElem (by rw [← Hm.out]; exact hlt)⟩
          obtain ⟨b, off, rfl, hbl, e0⟩ := row_str Hr1.out i x hx
          have hcl0 : ∀ z : InW (Below wr.heap.size wr), z.wd.cell? ⟨b, off + i, none⟩ = some (.string (bs x)) := fun z => (z.ok.cell (p := ⟨b, off + i, none⟩) (Nat.lt_of_lt_of_le hbl Hb.out.size)).trans ((Hb.out.cell (p := ⟨b, off + i, none⟩) hbl).trans e0)
          have hcl1 : ∀ z : InW (Below wr.heap.size wr), z.wd.cell? ⟨B, 0, none⟩ = some (.string (bs s.1)) := fun z => (z.ok.cell (p := ⟨B, 0, none⟩) (Nat.lt_of_lt_of_le HBw.out Hb.out.size)).trans ((Hb.out.cell (p := ⟨B, 0, none⟩) HBw.out).trans HK.out.1)
          have hcl2 : ∀ z : InW (Below wr.heap.size wr), z.wd.cell? ⟨B, 0 + 1, none⟩ = some (.string (bs s.2)) := fun z => (z.ok.cell (p := ⟨B, 0 + 1, none⟩) (Nat.lt_of_lt_of_le HBw.out Hb.out.size)).trans ((Hb.out.cell (p := ⟨B, 0 + 1, none⟩) HBw.out).trans HK.out.2)
          have hinh : Nonempty (InW (Below wr.heap.size wr)) := ⟨⟨wr, Below.refl _ wr⟩⟩
          have Hhas : Hid (∀ z : InW (Below wr.heap.size wr), Calls Try.prog 15 #[.agg #[.string (bs s.1), .string (bs s.2)], .string (bs x)] z.wd fun e w'' => e = .returned (.bool (hasL s x)) ∧ ∃ m : InW (Below wr.heap.size wr), w'' = m.wd) := Lib.hid (fun z => (refhas_any s x z.wd).mono (by rintro e w'' ⟨rfl, hb⟩; exact ⟨rfl, ⟨⟨w'', z.ok.trans (hb.mono z.ok.size)⟩, rfl⟩⟩))
          have Hany : Hid (∀ z : InW (Below wr.heap.size wr), Calls Try.prog 30 #[.slice A n cap, .string (bs x)] z.wd fun e w'' => e = .returned (.bool (anyL l x)) ∧ ∃ m : InW (Below wr.heap.size wr), w'' = m.wd) := Lib.hid (fun z => (refany_any l A n cap x z.wd Hn.out ((HrA.out.below Hb.out (Nat.le_refl _)).below z.ok (Nat.le_refl _)) (by omega)).mono (by rintro e w'' ⟨rfl, hb⟩; exact ⟨rfl, ⟨⟨w'', z.ok.trans (hb.mono z.ok.size)⟩, rfl⟩⟩))
          have Hst : Hid ((E.drop i).all (fun e => !(hasL s e) || anyL l e) = ((!(hasL s x) || anyL l x) && (E.drop (i + 1)).all fun e => !(hasL s e) || anyL l e)) := Lib.hid (by
            obtain ⟨hl, rfl⟩ := List.getElem?_eq_some_iff.1 hx
            rw [List.drop_eq_getElem_cons hl]; rfl)
          clear hx e0
          cases h1 : hasL s x with
          | false =>
            cases h2 : anyL l x with
            | false =>
              have Hnx : Hid (coversL l s = (E.drop (i + 1)).all fun e => !(hasL s e) || anyL l e) := Lib.hid (by rw [Hc2.out, Hst.out, h1, h2]; rfl)
              rw [h1] at Hhas
              rw [h2] at Hany
              clear h1 h2 Hst Hc2
              go_wp2_with fail
              refine wp_region_quiet_in (Below wr.heap.size wr) (by kernel_rfl) (by kernel_rfl) ((Below.refl _ wr).drew) ?_
              repeat (go_big_quiet_step ((first | (go_at_call 15; exact Hhas.out _) | (go_at_call 30; exact Hany.out _))))
              refine wpQuiet_nil ?_
              intro w3 hx3
              obtain ⟨x3, hx3⟩ := hx3
              have Hb3 : Hid (Below wc.heap.size wc w3) := Lib.hid (Hb.out.trans ((show Below wr.heap.size wr w3 by rw [hx3]; exact x3.ok).mono Hb.out.size))
              clear hx3 x3 hcl0 hcl1 hcl2 hinh Hhas Hany
              go_wp2
              go_roundw
              case rel => exact ⟨i + 1, by omega, by go_num, Hb3.out, Hnx.out⟩
              case measure => simp [intOf]; omega
            | true =>
              have Hnx : Hid (coversL l s = (E.drop (i + 1)).all fun e => !(hasL s e) || anyL l e) := Lib.hid (by rw [Hc2.out, Hst.out, h1, h2]; rfl)
              rw [h1] at Hhas
              rw [h2] at Hany
              clear h1 h2 Hst Hc2
              go_wp2_with fail
              refine wp_region_quiet_in (Below wr.heap.size wr) (by kernel_rfl) (by kernel_rfl) ((Below.refl _ wr).drew) ?_
              repeat (go_big_quiet_step ((first | (go_at_call 15; exact Hhas.out _) | (go_at_call 30; exact Hany.out _))))
              refine wpQuiet_nil ?_
              intro w3 hx3
              obtain ⟨x3, hx3⟩ := hx3
              have Hb3 : Hid (Below wc.heap.size wc w3) := Lib.hid (Hb.out.trans ((show Below wr.heap.size wr w3 by rw [hx3]; exact x3.ok).mono Hb.out.size))
              clear hx3 x3 hcl0 hcl1 hcl2 hinh Hhas Hany
              go_wp2
              go_roundw
              case rel => exact ⟨i + 1, by omega, by go_num, Hb3.out, Hnx.out⟩
              case measure => simp [intOf]; omega
          | true =>
            cases h2 : anyL l x with
            | false =>
              have Hfin : Hid (coversL l s = false) := Lib.hid (by rw [Hc2.out, Hst.out, h1, h2]; rfl)
              rw [h1] at Hhas
              rw [h2] at Hany
              clear h1 h2 Hst Hc2
              go_wp2_with fail
              refine wp_region_quiet_in (Below wr.heap.size wr) (by kernel_rfl) (by kernel_rfl) ((Below.refl _ wr).drew) ?_
              repeat (go_big_quiet_step ((first | (go_at_call 15; exact Hhas.out _) | (go_at_call 30; exact Hany.out _))))
              refine wpQuiet_nil ?_
              intro w3 hx3
              obtain ⟨x3, hx3⟩ := hx3
              have Hb3 : Hid (Below wc.heap.size wc w3) := Lib.hid (Hb.out.trans ((show Below wr.heap.size wr w3 by rw [hx3]; exact x3.ok).mono Hb.out.size))
              clear hx3 x3 hcl0 hcl1 hcl2 hinh Hhas Hany
              go_wp2
              go_ret
              exact ⟨by rw [Hfin.out]; rfl, (by first | exact HB.out.trans (Hb3.out.mono (by have := HB.out.size; omega)) | (rw [hB]; exact HB.out.trans (Hb3.out.mono (by have := HB.out.size; omega))))⟩
            | true =>
              have Hnx : Hid (coversL l s = (E.drop (i + 1)).all fun e => !(hasL s e) || anyL l e) := Lib.hid (by rw [Hc2.out, Hst.out, h1, h2]; rfl)
              rw [h1] at Hhas
              rw [h2] at Hany
              clear h1 h2 Hst Hc2
              go_wp2_with fail
              refine wp_region_quiet_in (Below wr.heap.size wr) (by kernel_rfl) (by kernel_rfl) ((Below.refl _ wr).drew) ?_
              repeat (go_big_quiet_step ((first | (go_at_call 15; exact Hhas.out _) | (go_at_call 30; exact Hany.out _))))
              refine wpQuiet_nil ?_
              intro w3 hx3
              obtain ⟨x3, hx3⟩ := hx3
              have Hb3 : Hid (Below wc.heap.size wc w3) := Lib.hid (Hb.out.trans ((show Below wr.heap.size wr w3 by rw [hx3]; exact x3.ok).mono Hb.out.size))
              clear hx3 x3 hcl0 hcl1 hcl2 hinh Hhas Hany
              go_wp2
              go_roundw
              case rel => exact ⟨i + 1, by omega, by go_num, Hb3.out, Hnx.out⟩
              case measure => simp [intOf]; omega
        · have hlt' : ¬ (i : Int) < (m : Int) := by omega
          have Hfin : Hid (coversL l s = true) := Lib.hid (by rw [Hc2.out, List.drop_eq_nil_of_le (by rw [← Hm.out]; omega)]; rfl)
          go_wp2
          go_ret
          exact ⟨by rw [Hfin.out]; rfl, (by first | exact HB.out.trans (Hb.out.mono (by have := HB.out.size; omega)) | (rw [hB]; exact HB.out.trans (Hb.out.mono (by have := HB.out.size; omega))))⟩
end Go.Proofs.Ytfjgikcbngfhmaa
