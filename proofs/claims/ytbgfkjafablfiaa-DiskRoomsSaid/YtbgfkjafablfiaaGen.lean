/-
  Rows: what lies from an address on; rows of the call's own, put behind, laid together (general; from layer 5).
-/
import Derived.Test.YtbgfkjafablfiaaSA
import Derived.Lib.Strings
import Derived.Lib.Slices
import Derived.Lib.Small
import Derived.Lib.Walk
import Derived.Deep.AppendLies
import Derived.Deep.RegionLaw
import Derived.Deep.RegionHeld3
import Derived.Deep.CutRange
import Derived.BigQuiet
namespace Go.Proofs.Ytbgfkjafablfiaa
open Go.RowKit

theorem ltL_flip (a b : List UInt8) : ltL a b = (!(ltL b a) && !(b == a)) := by
  rcases ltL_tri a b with h | rfl | h
  · rw [h, ltL_asymm h]
    have : b ≠ a := fun e => by rw [e, ltL_irrefl] at h; cases h
    simp [this]
  · rw [ltL_irrefl]; simp
  · rw [h, ltL_asymm h]; rfl

theorem less_bs (a b : List UInt8) : Op.bytesLess (bs a).toList (bs b).toList = ltL a b := by rw [bs_toList, bs_toList, ltL_eq]

/-- These cells lie from an address on. -/
def RowAt (w : World) (A : Option Addr) (cs : List Value) : Prop :=
  ∀ j v, cs[j]? = some v → ∃ b off, A = some (⟨b, off, none⟩ : Addr) ∧ b < w.heap.size ∧ w.cell? ⟨b, off + j, none⟩ = some v

theorem RowAt.below {w w' : World} {A : Option Addr} {cs : List Value} {B : Nat} (h : RowAt w A cs) (hb : Below B w w') (hB : w.heap.size ≤ B) : RowAt w' A cs := fun j v hv => by
  obtain ⟨b, off, hA, hl, h0⟩ := h j v hv
  exact ⟨b, off, hA, Nat.lt_of_lt_of_le hl hb.size, by rw [hb.cell (by show b < B; omega)]; exact h0⟩

/-- One element more behind a row of the call's own: the new element lies in the newest block. -/
theorem wpList_push {P : Program} {ops : Array Oper} {rest : List Oper} {o : Oper} {a : Act} {Q : Exit → Act → World → Prop} {W : World} (hgd : o.guard = none) (s x : Operand) (t : TypeId)
    (ho : o.op = .call { callee := .builtin .append, args := #[s, x], argTypes := #[t, t] })
    (base : Nat) (e : TypeId) (i : TypeInfo) (z : Value) (k bytes : Nat) (ht : P.underlying t = some (.slice e)) (hi : P.info? e = some i) (hz : i.zero = some z)
    (hsize : i.size = k) (hby : i.bytes = bytes) (hzs : z.cells.size = k) (hk : 0 < k)
    (v : Value) (n : Nat) (xs : List Value) (hs : a.eval s = v) (hown : W.ownsRow base e k v n xs) (news : Array Value) (hx : a.eval x = .slice (some ⟨W.heap.size, 0, none⟩) 1 1)
    (hl : news.size = k) (h1 : ∀ u ∈ news.toList, u.oneCell' = true) (hn : n ≤ 1000000) (hbytes : bytes ≤ 1000) (w0 : World) (hb : Below base w0 W) (hbs : base ≤ W.heap.size)
    (h : ∀ g cap w2, w2.ownsRow base e k (.slice (some ⟨g, 0, none⟩) (n + 1) cap) (n + 1) (xs ++ news.toList) → Below base w0 w2 → wpList P ops Q rest (a.put o.dst (.slice (some ⟨g, 0, none⟩) (n + 1) cap)) w2) :
    wpList P ops Q (o :: rest) a (W.alloc (.cells news e)) := by
  have hal : (W.alloc (.cells news e)).ownsRow base e k v n xs := by
    rcases hown.2 with ⟨hv, h0⟩ | ⟨g, cap, cur, hv, hbg, hh, r⟩
    · exact ⟨hown.1, .inl ⟨hv, h0⟩⟩
    · exact ⟨hown.1, .inr ⟨g, cap, cur, hv, hbg, (Below.heap_alloc W _ g (Array.getElem?_eq_some_iff.1 hh).1).trans hh, r⟩⟩
  refine wpList_append_lies _ hgd s x t ho base e i z k bytes ht hi hz hsize hby hzs hk v n xs hs hal ⟨W.heap.size, 0, none⟩ 1 1 news.toList hx (by simp [hl]) ?_ h1 (by omega) (by unfold maxLen; omega) ?_ (by simp; omega) _ rfl ?_
  · intro j u hu
    have hn : (W.alloc (.cells news e)).heap[W.heap.size]? = some (.cells news e (0, 0)) := by
      show (W.heap.push (Obj.cells news e))[W.heap.size]? = _
      simp
    rw [add_off, Lib.cell_of_heap hn]
    simpa using hu
  · have : (n + 1) * bytes ≤ 1000001 * 1000 := Nat.mul_le_mul (by omega) hbytes
    omega
  · intro g cap w2 hown2 hgrow _ _
    refine h g cap w2 hown2 ?_
    exact (hb.alloc hbs _).grown hgrow (by simp; omega) (fun j hj => (World.ownsRow.lt hal j hj).1)

/-- What a row of the call's own shows. -/
theorem own_row {w : World} {base : Nat} {e : TypeId} {k : Nat} {v : Value} {n : Nat} {cs : List Value} (h : w.ownsRow base e k v n cs) : ∃ A cap, v = .slice A n cap ∧ RowAt w A cs := by
  rcases h.2 with ⟨hv, h0⟩ | ⟨g, cap, cur, hv, hb, hh, hc, hm, hs, ht⟩
  · have : cs = [] := List.eq_nil_of_length_eq_zero (by rw [h.1, h0]; omega)
    subst this
    exact ⟨none, 0, by rw [hv, h0], fun j v hj => by simp at hj⟩
  · refine ⟨some ⟨g, 0, none⟩, cap, hv, fun j u hj => ⟨g, 0, rfl, (Array.getElem?_eq_some_iff.1 hh).1, ?_⟩⟩
    rw [Nat.zero_add, Lib.cell_of_heap hh]
    have hjl : j < n * k := by have := (List.getElem?_eq_some_iff.1 hj).1; rw [h.1] at this; exact this
    rw [← ht, List.getElem?_take_of_lt hjl] at hj
    simpa using hj

theorem own_none (w : World) (e : TypeId) (k : Nat) : (w.alloc (.cells #[] e)).ownsRow w.heap.size e k (.slice (some ⟨w.heap.size, 0, none⟩) 0 0) 0 [] :=
  World.ownsRow_lit w #[] 0 (Nat.le_refl _) (by unfold maxLen; omega) (by simp)

/-- Texts as cells. -/
def strC (l : List (List UInt8)) : List Value := l.map fun s => .string (bs s)

theorem strC_length (l : List (List UInt8)) : (strC l).length = l.length := by simp [strC]

theorem strC_append (l m : List (List UInt8)) : strC (l ++ m) = strC l ++ strC m := by simp [strC]

theorem strC_at (l : List (List UInt8)) (i : Nat) (s : List UInt8) (h : l[i]? = some s) : (strC l)[i]? = some (.string (bs s)) := by simp [strC, h]

theorem row_str {w : World} {A : Option Addr} {l : List (List UInt8)} (h : RowAt w A (strC l)) (i : Nat) (s : List UInt8) (hs : l[i]? = some s) :
    ∃ b off, A = some (⟨b, off, none⟩ : Addr) ∧ b < w.heap.size ∧ w.cell? ⟨b, off + i, none⟩ = some (.string (bs s)) := h _ _ (strC_at l i s hs)

theorem own_base {w : World} {B B' : Nat} {e : TypeId} {k : Nat} {v : Value} {n : Nat} {cs : List Value} (h : w.ownsRow B e k v n cs) (hB : B' ≤ B) : w.ownsRow B' e k v n cs := by
  rcases h.2 with h0 | ⟨g, cap, cur, hv, hb, r⟩
  · exact ⟨h.1, .inl h0⟩
  · exact ⟨h.1, .inr ⟨g, cap, cur, hv, by omega, r⟩⟩

/-- A row of the call's own is kept where only new blocks are written. -/
theorem own_below {w w' : World} {B : Nat} {e : TypeId} {k : Nat} {v : Value} {n : Nat} {cs : List Value} (h : w.ownsRow B e k v n cs) (hb : Below w.heap.size w w') : w'.ownsRow B e k v n cs := by
  rcases h.2 with h0 | ⟨g, cap, cur, hv, hbg, hh, r⟩
  · exact ⟨h.1, .inl h0⟩
  · exact ⟨h.1, .inr ⟨g, cap, cur, hv, hbg, (hb.block g (Array.getElem?_eq_some_iff.1 hh).1).trans hh, r⟩⟩

/-- A world of a class. -/
structure InW (C : World → Prop) where
  wd : World
  ok : C wd

/-- A region whose operations and callees keep the world in a class of worlds, and read the same in each of it: walked once, as it is written. -/
theorem wp_region_quiet_in {P : Program} {id : Nat} {Q : Exit → Act → World → Prop} {a : Act} {w : World} {l : List Oper} (C : World → Prop) (hm : P.follows .mixedOrders = true) (hB : Region.lexB .any l.toArray = true)
    (h0 : C w.drew) (h : wpQuiet P l.toArray (fun w' => ∃ x : InW C, w' = x.wd) (fun a' => ∀ w', (∃ x : InW C, w' = x.wd) → Q .normal a' w') l a) : (Code.region id l.toArray true).wp P Q a w :=
  wp_region_quiet (C := fun w' => ∃ x : InW C, w' = x.wd) hm hB ⟨⟨w.drew, h0⟩, rfl⟩ (by simpa using h)

theorem run_append_none {P : Program} (w : World) (t ty e : TypeId) (i : TypeInfo) (ht : P.underlying t = some (.slice e)) (hi : P.info? e = some i) (g : Nat) (A : Option Addr) (c : Nat) :
    (Builtin.append_ #[t, t] ty #[.slice (some ⟨g, 0, none⟩) 0 0, .slice A 0 c]).run P w = .ok (.slice (some ⟨g, 0, none⟩) 0 0) w := by
  cases A <;> simp [Builtin.append_, run_underlying ht, sizeOf, typeInfo, hi, Builtin.lenOf, Builtin.firstCells, storeCells, loadCells, loadCellsFrom]

/-- At a step of a region that draws its order: nothing appended to nothing. -/
theorem step_append_none {P : Program} {w : World} {ops : Array Oper} {o : Oper} {a : Act} {K : Act → World → Prop} {Q : Exit → Act → World → Prop} {E : Prop} (hgd : o.guard = none) (s x : Operand) (t : TypeId)
    (ho : o.op = .call { callee := .builtin .append, args := #[s, x], argTypes := #[t, t] }) (e : TypeId) (i : TypeInfo) (ht : P.underlying t = some (.slice e)) (hi : P.info? e = some i)
    (g : Nat) (A : Option Addr) (c : Nat) (hs : a.eval s = .slice (some ⟨g, 0, none⟩) 0 0) (hx : a.eval x = .slice A 0 c)
    (h : K (a.put o.dst (.slice (some ⟨g, 0, none⟩) 0 0)) w) : if Region.wanted o (yielded ops a.tmps) = true then Oper.wp P o a w K Q else E := by
  have hw : Region.wanted o (yielded ops a.tmps) = true := by simp [Region.wanted, hgd]
  rw [if_pos hw]
  have hr := run_append_none (P := P) w t o.type e i ht hi g A c
  unfold Oper.wp execOp
  simp only [ho, resolve, invoke, builtin, Sem.run_bind, Sem.run_pure, Result.andThen_ok, List.map_toArray, List.map_cons, List.map_nil, hs, hx, hr]
  exact h

theorem own_alloc {w : World} {B : Nat} {e : TypeId} {k : Nat} {v : Value} {n : Nat} {cs : List Value} (h : w.ownsRow B e k v n cs) (o : Obj) : (w.alloc o).ownsRow B e k v n cs :=
  own_below h ((Below.refl _ _).alloc (Nat.le_refl _) o)

theorem own_drew {w : World} {B : Nat} {e : TypeId} {k : Nat} {v : Value} {n : Nat} {cs : List Value} (h : w.ownsRow B e k v n cs) : w.drew.ownsRow B e k v n cs := h

theorem row_add (b off i : Nat) : (⟨b, off, none⟩ : Addr).add i = ⟨b, off + i, none⟩ := by unfold Addr.add; split <;> simp_all

theorem own_row' {w : World} {base : Nat} {e : TypeId} {k : Nat} {A : Option Addr} {n cap : Nat} {cs : List Value} (h : w.ownsRow base e k (.slice A n cap) n cs) : RowAt w A cs := by
  obtain ⟨A', cap', e, hr⟩ := own_row h
  injection e with e1
  rw [e1]; exact hr

theorem row_new (W : World) (cs : Array Value) (e : TypeId) : RowAt (W.alloc (.cells cs e)) (some ⟨W.heap.size, 0, none⟩) cs.toList := fun j v hj => by
  have hn : (W.alloc (.cells cs e)).heap[W.heap.size]? = some (.cells cs e (0, 0)) := by
    show (W.heap.push (Obj.cells cs e))[W.heap.size]? = _
    simp
  refine ⟨_, 0, rfl, (Array.getElem?_eq_some_iff.1 hn).1, ?_⟩
  rw [Nat.zero_add, Lib.cell_of_heap hn]
  simpa using hj

theorem row_kept {W W' : World} {b : Nat} {cs : List Value} (h : RowAt W (some ⟨b, 0, none⟩) cs) (hk : W'.heap[b]? = W.heap[b]?) : RowAt W' (some ⟨b, 0, none⟩) cs := fun j v hj => by
  obtain ⟨b', off, e, hl, hc⟩ := h j v hj
  injection e with e
  injection e with e1 e2
  subst e1
  subst e2
  refine ⟨_, 0, rfl, ?_, ?_⟩
  · have : b < W'.heap.size := by
      obtain ⟨x, hx⟩ : ∃ x, W.heap[b]? = some x := ⟨_, Array.getElem?_eq_getElem hl⟩
      rw [hx] at hk
      exact (Array.getElem?_eq_some_iff.1 hk).1
    exact this
  · rw [← hc]
    unfold World.cell?
    rw [hk]

theorem row_new2 (W : World) (o : Obj) (cs : Array Value) (e : TypeId) : RowAt ((W.alloc o).alloc (.cells cs e)) (some ⟨W.heap.size + 1, 0, none⟩) cs.toList := by
  have := row_new (W.alloc o) cs e
  rw [show (W.alloc o).heap.size = W.heap.size + 1 by simp] at this
  exact this

theorem own_none2 (W : World) (o : Obj) (e : TypeId) (k : Nat) : ((W.alloc o).alloc (.cells #[] e)).ownsRow W.heap.size e k (.slice (some ⟨W.heap.size + 1, 0, none⟩) 0 0) 0 [] := by
  have := own_none (W.alloc o) e k
  rw [show (W.alloc o).heap.size = W.heap.size + 1 by simp] at this
  exact own_base this (by omega)

/-- A step of a region that draws: a row that lies, behind an empty row of the call's own. -/
theorem step_append_row {P : Program} {w : World} {ops : Array Oper} {o : Oper} {a : Act} {K : Act → World → Prop} {Q : Exit → Act → World → Prop} {E : Prop} (hgd : o.guard = none) (s x : Operand) (t : TypeId)
    (ho : o.op = .call { callee := .builtin .append, args := #[s, x], argTypes := #[t, t] })
    (base : Nat) (e : TypeId) (i : TypeInfo) (z : Value) (k bytes : Nat) (ht : P.underlying t = some (.slice e)) (hi : P.info? e = some i) (hz : i.zero = some z)
    (hsize : i.size = k) (hby : i.bytes = bytes) (hzs : z.cells.size = k) (hk : 0 < k)
    (g : Nat) (hs : a.eval s = .slice (some ⟨g, 0, none⟩) 0 0) (hown : w.ownsRow base e k (.slice (some ⟨g, 0, none⟩) 0 0) 0 [])
    (A : Option Addr) (n c : Nat) (cs : List Value) (hx : a.eval x = .slice A n c) (hrow : RowAt w A cs) (hl : cs.length = n * k) (h1 : ∀ u ∈ cs, u.oneCell' = true) (hn : n ≤ 1000000) (hbytes : bytes ≤ 1000)
    (w0 : World) (hb : Below base w0 w) (hbs : base ≤ w.heap.size)
    (h : ∀ g' cap' w', w'.ownsRow base e k (.slice (some ⟨g', 0, none⟩) n cap') n cs → Below base w0 w' → (∀ j, j < w.heap.size → j ≠ g → w'.heap[j]? = w.heap[j]?) → K (a.put o.dst (.slice (some ⟨g', 0, none⟩) n cap')) w') :
    if Region.wanted o (yielded ops a.tmps) = true then Oper.wp P o a w K Q else E := by
  by_cases h0 : n = 0
  · subst h0
    have hcs : cs = [] := List.eq_nil_of_length_eq_zero (by omega)
    subst hcs
    exact step_append_none hgd s x t ho e i ht hi g A c hs hx (h g 0 w hown hb (fun _ _ _ => rfl))
  · obtain ⟨u0, hu0⟩ : ∃ u0, cs[0]? = some u0 := ⟨_, List.getElem?_eq_getElem (by rw [hl]; exact Nat.mul_pos (by omega) hk)⟩
    obtain ⟨b, off, hA, _, _⟩ := hrow 0 u0 hu0
    refine step_append_lies _ hgd s x t ho base e i z k bytes ht hi hz hsize hby hzs hk _ 0 [] hs hown ⟨b, off, none⟩ n c cs (by rw [hx, hA]) hl ?_ h1 (by omega) (by unfold maxLen; omega) ?_ hbs _ rfl ?_
    · intro j u hu
      obtain ⟨b', off', hA', _, hc⟩ := hrow j u hu
      rw [hA] at hA'
      injection hA' with hA'
      injection hA' with e1 e2
      subst e1
      subst e2
      rw [row_add]; exact hc
    · have : (0 + n) * bytes ≤ 1000000 * 1000 := Nat.mul_le_mul (by omega) hbytes
      omega
    · intro g' cap' w' hown' hgrow _ _
      simp only [Nat.zero_add, List.nil_append] at hown'
      refine (by simpa using h g' cap' w' hown' (hb.grown hgrow hbs (fun j hj => (World.ownsRow.lt hown j hj).1)) (fun j hj hne => hgrow.block j hj (by simpa [Value.ownBlock] using hne)))

/-- A step of a region that draws: one element more behind a row of the call's own. -/
theorem step_push {P : Program} {w : World} {ops : Array Oper} {o : Oper} {a : Act} {K : Act → World → Prop} {Q : Exit → Act → World → Prop} {E : Prop} (hgd : o.guard = none) (s x : Operand) (t : TypeId)
    (ho : o.op = .call { callee := .builtin .append, args := #[s, x], argTypes := #[t, t] })
    (base : Nat) (e : TypeId) (i : TypeInfo) (z : Value) (k bytes : Nat) (ht : P.underlying t = some (.slice e)) (hi : P.info? e = some i) (hz : i.zero = some z)
    (hsize : i.size = k) (hby : i.bytes = bytes) (hzs : z.cells.size = k) (hk : 0 < k)
    (v : Value) (n : Nat) (xs : List Value) (hs : a.eval s = v) (hown : w.ownsRow base e k v n xs)
    (b c : Nat) (cs : List Value) (hx : a.eval x = .slice (some ⟨b, 0, none⟩) 1 c) (hrow : RowAt w (some ⟨b, 0, none⟩) cs) (hl : cs.length = k) (h1 : ∀ u ∈ cs, u.oneCell' = true) (hn : n ≤ 1000000) (hbytes : bytes ≤ 1000)
    (w0 : World) (hb : Below base w0 w) (hbs : base ≤ w.heap.size)
    (h : ∀ g cap w', w'.ownsRow base e k (.slice (some ⟨g, 0, none⟩) (n + 1) cap) (n + 1) (xs ++ cs) → Below base w0 w' → K (a.put o.dst (.slice (some ⟨g, 0, none⟩) (n + 1) cap)) w') :
    if Region.wanted o (yielded ops a.tmps) = true then Oper.wp P o a w K Q else E := by
  refine step_append_lies _ hgd s x t ho base e i z k bytes ht hi hz hsize hby hzs hk v n xs hs hown ⟨b, 0, none⟩ 1 c cs hx (by omega) ?_ h1 (by omega) (by unfold maxLen; omega) ?_ hbs _ rfl ?_
  · intro j u hu
    obtain ⟨b', off', hA', _, hc⟩ := hrow j u hu
    injection hA' with hA'
    injection hA' with e1 e2
    subst e1
    subst e2
    rw [row_add]; exact hc
  · have : (n + 1) * bytes ≤ 1000001 * 1000 := Nat.mul_le_mul (by omega) hbytes
    omega
  · intro g cap w' hown' hgrow _ _
    exact h g cap w' hown' (hb.grown hgrow hbs (fun j hj => (World.ownsRow.lt hown j hj).1))

theorem run_append_zero {P : Program} (w : World) (t ty e : TypeId) (i : TypeInfo) (ht : P.underlying t = some (.slice e)) (hi : P.info? e = some i) (g m m' : Nat) (hm : m ≤ m') (A : Option Addr) (c : Nat) :
    (Builtin.append_ #[t, t] ty #[.slice (some ⟨g, 0, none⟩) m m', .slice A 0 c]).run P w = .ok (.slice (some ⟨g, 0, none⟩) m m') w := by
  cases A <;> simp [Builtin.append_, run_underlying ht, sizeOf, typeInfo, hi, Builtin.lenOf, Builtin.firstCells, storeCells, loadCells, loadCellsFrom, hm]

/-- A step of a region that draws: a row that lies, behind a row of the call's own. -/
theorem step_behind {P : Program} {w : World} {ops : Array Oper} {o : Oper} {a : Act} {K : Act → World → Prop} {Q : Exit → Act → World → Prop} {E : Prop} (hgd : o.guard = none) (s x : Operand) (t : TypeId)
    (ho : o.op = .call { callee := .builtin .append, args := #[s, x], argTypes := #[t, t] })
    (base : Nat) (e : TypeId) (i : TypeInfo) (z : Value) (k bytes : Nat) (ht : P.underlying t = some (.slice e)) (hi : P.info? e = some i) (hz : i.zero = some z)
    (hsize : i.size = k) (hby : i.bytes = bytes) (hzs : z.cells.size = k) (hk : 0 < k) (hby1 : 0 < bytes)
    (g m m' : Nat) (hmm : m ≤ m') (xs : List Value) (hs : a.eval s = .slice (some ⟨g, 0, none⟩) m m') (hown : w.ownsRow base e k (.slice (some ⟨g, 0, none⟩) m m') m xs)
    (A : Option Addr) (n c : Nat) (cs : List Value) (hx : a.eval x = .slice A n c) (hrow : RowAt w A cs) (hl : cs.length = n * k) (h1 : ∀ u ∈ cs, u.oneCell' = true) (hn : (m + n) * bytes ≤ 140737488355328)
    (w0 : World) (hb : Below base w0 w) (hbs : base ≤ w.heap.size)
    (h : ∀ g' cap' w', w'.ownsRow base e k (.slice (some ⟨g', 0, none⟩) (m + n) cap') (m + n) (xs ++ cs) → Below base w0 w' → (∀ j, j < w.heap.size → j ≠ g → w'.heap[j]? = w.heap[j]?) → K (a.put o.dst (.slice (some ⟨g', 0, none⟩) (m + n) cap')) w') :
    if Region.wanted o (yielded ops a.tmps) = true then Oper.wp P o a w K Q else E := by
  by_cases h0 : n = 0
  · subst h0
    have hcs : cs = [] := List.eq_nil_of_length_eq_zero (by omega)
    subst hcs
    have hw : Region.wanted o (yielded ops a.tmps) = true := by simp [Region.wanted, hgd]
    rw [if_pos hw]
    have hr := run_append_zero (P := P) w t o.type e i ht hi g m m' hmm A c
    have h' := h g m' w (by simpa using hown) hb (fun _ _ _ => rfl)
    unfold Oper.wp execOp
    simp only [ho, resolve, invoke, builtin, Sem.run_bind, Sem.run_pure, Result.andThen_ok, List.map_toArray, List.map_cons, List.map_nil, hs, hx, hr]
    exact h'
  · obtain ⟨u0, hu0⟩ : ∃ u0, cs[0]? = some u0 := ⟨_, List.getElem?_eq_getElem (by rw [hl]; exact Nat.mul_pos (by omega) hk)⟩
    obtain ⟨b, off, hA, _, _⟩ := hrow 0 u0 hu0
    have hmn : m + n ≤ (m + n) * bytes := Nat.le_mul_of_pos_right _ hby1
    refine step_append_lies _ hgd s x t ho base e i z k bytes ht hi hz hsize hby hzs hk _ m xs hs hown ⟨b, off, none⟩ n c cs (by rw [hx, hA]) hl ?_ h1 (by omega) (by unfold maxLen; omega) hn hbs _ rfl ?_
    · intro j u hu
      obtain ⟨b', off', hA', _, hc⟩ := hrow j u hu
      rw [hA] at hA'
      injection hA' with hA'
      injection hA' with e1 e2
      subst e1
      subst e2
      rw [row_add]; exact hc
    · intro g' cap' w' hown' hgrow _ _
      exact h g' cap' w' hown' (hb.grown hgrow hbs (fun j hj => (World.ownsRow.lt hown j hj).1)) (fun j hj hne => hgrow.block j hj (by simpa [Value.ownBlock] using hne))

/-- The same at an operation that stands in its order. -/
theorem wpList_behind {P : Program} {w : World} {ops : Array Oper} {rest : List Oper} {o : Oper} {a : Act} {Q : Exit → Act → World → Prop} (hgd : o.guard = none) (s x : Operand) (t : TypeId)
    (ho : o.op = .call { callee := .builtin .append, args := #[s, x], argTypes := #[t, t] })
    (base : Nat) (e : TypeId) (i : TypeInfo) (z : Value) (k bytes : Nat) (ht : P.underlying t = some (.slice e)) (hi : P.info? e = some i) (hz : i.zero = some z)
    (hsize : i.size = k) (hby : i.bytes = bytes) (hzs : z.cells.size = k) (hk : 0 < k) (hby1 : 0 < bytes)
    (g m m' : Nat) (hmm : m ≤ m') (xs : List Value) (hs : a.eval s = .slice (some ⟨g, 0, none⟩) m m') (hown : w.ownsRow base e k (.slice (some ⟨g, 0, none⟩) m m') m xs)
    (A : Option Addr) (n c : Nat) (cs : List Value) (hx : a.eval x = .slice A n c) (hrow : RowAt w A cs) (hl : cs.length = n * k) (h1 : ∀ u ∈ cs, u.oneCell' = true) (hn : (m + n) * bytes ≤ 140737488355328)
    (w0 : World) (hb : Below base w0 w) (hbs : base ≤ w.heap.size)
    (h : ∀ g' cap' w', w'.ownsRow base e k (.slice (some ⟨g', 0, none⟩) (m + n) cap') (m + n) (xs ++ cs) → Below base w0 w' → wpList P ops Q rest (a.put o.dst (.slice (some ⟨g', 0, none⟩) (m + n) cap')) w') : wpList P ops Q (o :: rest) a w := by
  refine wpList_plain hgd fun K hK => ?_
  have := step_behind (P := P) (w := w) (ops := ops) (o := o) (a := a) (K := K) (Q := Q) (E := True) hgd s x t ho base e i z k bytes ht hi hz hsize hby hzs hk hby1 g m m' hmm xs hs hown A n c cs hx hrow hl h1 hn w0 hb hbs (fun g' cap' w' h2 h3 _ => hK _ _ (h g' cap' w' h2 h3))
  rwa [if_pos (by simp [Region.wanted, hgd])] at this

/-- A step of a region that draws: one element more behind a row of the call's own; what else lies, lies. -/
theorem step_push_keep {P : Program} {w : World} {ops : Array Oper} {o : Oper} {a : Act} {K : Act → World → Prop} {Q : Exit → Act → World → Prop} {E : Prop} (hgd : o.guard = none) (s x : Operand) (t : TypeId)
    (ho : o.op = .call { callee := .builtin .append, args := #[s, x], argTypes := #[t, t] })
    (base : Nat) (e : TypeId) (i : TypeInfo) (z : Value) (k bytes : Nat) (ht : P.underlying t = some (.slice e)) (hi : P.info? e = some i) (hz : i.zero = some z)
    (hsize : i.size = k) (hby : i.bytes = bytes) (hzs : z.cells.size = k) (hk : 0 < k)
    (v : Value) (n : Nat) (xs : List Value) (hs : a.eval s = v) (hown : w.ownsRow base e k v n xs)
    (b c : Nat) (cs : List Value) (hx : a.eval x = .slice (some ⟨b, 0, none⟩) 1 c) (hrow : RowAt w (some ⟨b, 0, none⟩) cs) (hl : cs.length = k) (h1 : ∀ u ∈ cs, u.oneCell' = true) (hn : n ≤ 1000000) (hbytes : bytes ≤ 1000)
    (w0 : World) (hb : Below base w0 w) (hbs : base ≤ w.heap.size)
    (h : ∀ g cap w', w'.ownsRow base e k (.slice (some ⟨g, 0, none⟩) (n + 1) cap) (n + 1) (xs ++ cs) → Below base w0 w' → (∀ p y, w.cell? p = some y → (∀ j, v.ownBlock = some j → p.block ≠ j) → w'.cell? p = some y) → K (a.put o.dst (.slice (some ⟨g, 0, none⟩) (n + 1) cap)) w') :
    if Region.wanted o (yielded ops a.tmps) = true then Oper.wp P o a w K Q else E := by
  refine step_append_lies _ hgd s x t ho base e i z k bytes ht hi hz hsize hby hzs hk v n xs hs hown ⟨b, 0, none⟩ 1 c cs hx (by omega) ?_ h1 (by omega) (by unfold maxLen; omega) ?_ hbs _ rfl ?_
  · intro j u hu
    obtain ⟨b', off', hA', _, hc⟩ := hrow j u hu
    injection hA' with hA'
    injection hA' with e1 e2
    subst e1
    subst e2
    rw [row_add]; exact hc
  · have : (n + 1) * bytes ≤ 1000001 * 1000 := Nat.mul_le_mul (by omega) hbytes
    omega
  · intro g cap w' hown' hgrow _ _
    exact h g cap w' hown' (hb.grown hgrow hbs (fun j hj => (World.ownsRow.lt hown j hj).1)) (fun p y hp hne => hgrow.cell hp (fun e => hne p.block e.symm rfl))

theorem quiet_more {P : Program} {f : FuncId} {args : Array Value} {w : World} {a n : Nat} {v : Value} (h : Calls P f args (w.drewN (a + n)) fun e w' => e = .returned v ∧ w' = w.drewN (a + n)) :
    Calls P f args (w.drewN (a + n)) fun e w' => e = .returned v ∧ ∃ m, w' = w.drewN (a + m) := h.mono fun _ _ hh => ⟨hh.1, n, hh.2⟩

theorem take_snoc (p : List UInt8) (n : Nat) (h : n < p.length) : p.take (n + 1) = p.take n ++ [p.getD n 0] := by
  rw [List.take_add_one, List.getD_eq_getElem?_getD, List.getElem?_eq_getElem h]; rfl

theorem str_at (l : List UInt8) (k : Nat) (h : k < (bs l).size) : (bs l)[k] = l.getD k 0 := by
  rw [bl_get, bl_bs]
end Go.Proofs.Ytbgfkjafablfiaa
