/-
  What the frames of the laws hand on: texts, flags, numbers, ops that came in.
-/
import Derived.Test.YtbgfkjafablfiaaTS
import Derived.Test.YtbgfkjafablfiaaTT
import Derived.Deep.Slices
import Derived.Deep.Grids
import Derived.SliceStrings
import Derived.ChangeSlices
import Derived.OpenShut
import Derived.ShutString
import Derived.ChangeOld
import Derived.SizedLaws
namespace Go.Proofs.Ytbgfkjafablfiaa
open Go.RowKit Go.Deep Go.ChangeShapes Go.WideShapes

theorem own : ownKnob Try.prog.godebug = none := by kernel_rfl
theorem laidOut : laidOutB Try.prog = true := by kernel_rfl
theorem spot_none {w : World} {a : Addr} {v : Value} (h : w.cell? a = some v) : ∃ b off, a = ⟨b, off, none⟩ ∧ b < w.heap.size := by
  obtain ⟨b, off, spot⟩ := a
  obtain rfl : spot = none := World.cell?_spot h
  exact ⟨b, off, rfl, World.block_lt_of_cell? w _ h⟩
theorem max_le : maxLen ≤ 9223372036854775807 := by unfold maxLen; omega
theorem wf_i64 {n : Int} (h : (Lit.int .i64 n).wf = true) : I64 n := by
  simp [Lit.wf, IntKind.min, IntKind.max, IntKind.signed, IntKind.bits] at h; unfold I64; omega
/-- Cells that lie one behind the other. -/
theorem row_of {w : World} {a : Addr} {cs : List Value} (h : ∀ i, i < cs.length → w.cell? (a.add i) = cs[i]?) : RowAt w (some a) cs := fun j v hj => by
  have hjl := (List.getElem?_eq_some_iff.1 hj).1
  have h0 := h 0 (by omega)
  obtain ⟨v0, hv0⟩ : ∃ v0, cs[0]? = some v0 := ⟨_, List.getElem?_eq_getElem (by omega)⟩
  rw [hv0] at h0
  obtain ⟨b, off, rfl, hb⟩ := spot_none (a := a) (v := v0) (by simpa [Addr.add] using h0)
  have e := h j hjl
  rw [row_add, hj] at e
  exact ⟨b, off, rfl, hb, e⟩

section
variable {H : Type} {enc : TypeId × Value → H} {w : World}

theorem texts_in {fuel : Nat} {A : Option Addr} {n cap : Nat} {x : DataW H × List MemPlace} (h : DataW.trod enc Try.prog w 0 (fun _ => true) true fuel 38 [.slice A n cap] = some x) :
    ∃ l : List (List UInt8), l.length = n ∧ RowAt w A (strC l) ∧ n ≤ 9223372036854775807 ∧ ∀ s ∈ l, s.length ≤ 9223372036854775807 := by
  rcases open_strings Try.underlying38 Try.underlying9 (by kernel_rfl) h with ⟨hcs, _⟩ | ⟨a, len, c, ss, hcs, _, hl, hm, hss, _, hcell, hall⟩
  · simp at hcs
    obtain ⟨rfl, rfl, rfl⟩ := hcs
    exact ⟨[], rfl, fun i y hy => by simp [strC] at hy, by omega, by simp⟩
  · simp at hcs
    obtain ⟨rfl, rfl, rfl⟩ := hcs
    simp only [if_true] at hss
    have := max_le
    refine ⟨(ss.take n).map bl, by rw [List.length_map, List.length_take]; omega, ?_, by omega, fun s hs => ?_⟩
    · refine row_of fun i hi => ?_
      rw [strC_length, List.length_map, List.length_take] at hi
      have hi2 : i < ss.length := by omega
      rw [hcell i hi2]
      have : ((ss.take n).map bl)[i]? = some (bl (ss.getD i ByteArray.empty)) := by
        rw [List.getElem?_map, List.getElem?_take_of_lt (by omega), List.getD_eq_getElem?_getD, List.getElem?_eq_getElem hi2]; rfl
      rw [strC_at _ _ _ this, bs_bl]
    · obtain ⟨t, ht, rfl⟩ := List.mem_map.1 hs
      rw [bl_length]
      exact Nat.le_trans (hall t (List.mem_of_mem_take ht)) this
theorem bools_in {fuel : Nat} {A : Option Addr} {n cap : Nat} {x : DataW H × List MemPlace} (h : DataW.trod enc Try.prog w 0 (fun _ => true) true fuel 39 [.slice A n cap] = some x) :
    ∃ l : List Bool, l.length = n ∧ RowAt w A (boolC l) := by
  rcases open_bools Try.underlying39 Try.underlying4 (by kernel_rfl) h with ⟨hcs, _⟩ | ⟨a, len, c, B, hcs, _, hl, hm, _, hcell⟩
  · simp at hcs
    obtain ⟨rfl, rfl, rfl⟩ := hcs
    exact ⟨[], rfl, fun i y hy => by simp [boolC] at hy⟩
  · simp at hcs
    obtain ⟨rfl, rfl, rfl⟩ := hcs
    refine ⟨(List.range n).map B, by simp, row_of fun i hi => ?_⟩
    have hi2 : i < n := by simpa [boolC] using hi
    rw [hcell i (by omega)]
    simp [boolC, hi2]
theorem ints_in {fuel : Nat} {A : Option Addr} {n cap : Nat} {x : DataW H × List MemPlace} (h : DataW.trod enc Try.prog w 0 (fun _ => true) true fuel 33 [.slice A n cap] = some x) :
    ∃ l : List Int, l.length = n ∧ RowAt w A (intC l) ∧ (∀ z ∈ l, I64 z) ∧ n ≤ 9223372036854775807 := by
  rcases open_ints Try.underlying33 Try.underlying3 (by kernel_rfl) h with ⟨hcs, _⟩ | ⟨a, len, c, zs, hcs, _, hl, hm, hzs, _, hcell, hall⟩
  · simp at hcs
    obtain ⟨rfl, rfl, rfl⟩ := hcs
    exact ⟨[], rfl, fun i y hy => by simp [intC] at hy, by simp, by omega⟩
  · simp at hcs
    obtain ⟨rfl, rfl, rfl⟩ := hcs
    simp only [if_true] at hzs
    have := max_le
    refine ⟨zs.take n, by rw [List.length_take]; omega, row_of fun i hi => ?_, fun z hz => wf_i64 (hall z (List.mem_of_mem_take hz)), by omega⟩
    have hi2 : i < n ∧ i < zs.length := by simp [intC] at hi; omega
    rw [hcell i hi2.2]
    simp [intC, List.getElem?_take_of_lt hi2.1, List.getD_eq_getElem?_getD, List.getElem?_eq_getElem hi2.2]
theorem ints_slice {fuel : Nat} {v : Value} {x : DataW H × List MemPlace} (h : DataW.trod enc Try.prog w 0 (fun _ => true) true fuel 33 [v] = some x) : ∃ A n cap, v = .slice A n cap := by
  rcases open_ints Try.underlying33 Try.underlying3 (by kernel_rfl) h with ⟨hcs, _⟩ | ⟨a, len, c, zs, hcs, _⟩
  · simp at hcs
    exact ⟨_, _, _, hcs⟩
  · simp at hcs
    exact ⟨_, _, _, hcs⟩
theorem offs35 : (Try.prog.underlying 35).map (fun d => match d with | .struct fs => fs.toList.map (fun f => (f.type, f.offset)) | _ => []) = some [(3, 0), (9, 1), (9, 2), (3, 3), (33, 4)] := by kernel_rfl
set_option maxRecDepth 100000 in
/-- The cells of an op. -/
theorem op_cells {fuel : Nat} {cs : List Value} {x : DataW H × List MemPlace} (h : DataW.trod enc Try.prog w 0 (fun _ => true) true fuel 35 cs = some x) :
    ∃ o : Oo, cs = [.int .i64 o.k, .string (bs o.nm), .string (bs o.b), .int .i64 o.n, .slice o.A o.kl o.kc] ∧ I64 o.n ∧ Keeps w o := by
  obtain ⟨fs, hfs⟩ : ∃ fs : Array Field, Try.prog.underlying 35 = some (.struct fs) := ⟨_, Try.underlying35⟩
  have hoffs := offs35
  rw [hfs] at hoffs
  have hfl : fs.toList.map (fun f => (f.type, f.offset)) = [(3, 0), (9, 1), (9, 2), (3, 3), (33, 4)] := by simpa using hoffs
  have fld : ∀ j t o, [(3, 0), (9, 1), (9, 2), (3, 3), (33, 4)][j]? = some ((t, o) : TypeId × Nat) → ∃ g : Field, fs[j]? = some g ∧ g.type = t ∧ g.offset = o := fun j t o hj => by
    rw [← hfl, List.getElem?_map] at hj
    obtain ⟨g, hg, he⟩ := Option.map_eq_some_iff.1 hj
    simp only [Prod.mk.injEq] at he
    exact ⟨g, by simpa using hg, he.1, he.2⟩
  obtain ⟨f0, hf0, t0, o0⟩ := fld 0 3 0 rfl
  obtain ⟨f1, hf1, t1, o1⟩ := fld 1 9 1 rfl
  obtain ⟨f2, hf2, t2, o2⟩ := fld 2 9 2 rfl
  obtain ⟨f3, hf3, t3, o3⟩ := fld 3 3 3 rfl
  obtain ⟨f4, hf4, t4, o4⟩ := fld 4 33 4 rfl
  have hsize : fs.size = 5 := by
    have := congrArg List.length hfl
    simpa using this
  have c3 : Try.prog.cellsOf 3 = 1 := by kernel_rfl
  have c9 : Try.prog.cellsOf 9 = 1 := by kernel_rfl
  have c33 : Try.prog.cellsOf 33 = 1 := by kernel_rfl
  have c35 : Try.prog.cellsOf 35 = 5 := by kernel_rfl
  obtain ⟨xs, k, _, _, hcl, hxl, hf⟩ := DataW.trod_struct hfs h
  rw [c35] at hcl
  match xs, hxl.trans hsize, cs, hcl with
  | [y0, y1, y2, y3, y4], _, [v0, v1, v2, v3, v4], _ =>
    have g0 := hf 0 f0 hf0
    have g1 := hf 1 f1 hf1
    have g2 := hf 2 f2 hf2
    have g3 := hf 3 f3 hf3
    have g4 := hf 4 f4 hf4
    rw [t0, o0, c3] at g0
    rw [t1, o1, c9] at g1
    rw [t2, o2, c9] at g2
    rw [t3, o3, c3] at g3
    rw [t4, o4, c33] at g4
    simp only [List.drop_zero, List.take_succ_cons, List.take_zero, List.drop_succ_cons, List.getElem?_cons_zero, List.getElem?_cons_succ] at g0 g1 g2 g3 g4
    obtain ⟨p, hp, _, _⟩ := DataW.trod_int Try.underlying3 g0
    obtain ⟨q, hq, _, _⟩ := DataW.trod_string Try.underlying9 g1
    obtain ⟨s, hs, _, _⟩ := DataW.trod_string Try.underlying9 g2
    obtain ⟨n, hn, _, hn3⟩ := DataW.trod_int Try.underlying3 g3
    obtain ⟨A, kl, kc, rfl⟩ := ints_slice g4
    obtain ⟨keep, k1, k2, k3, k4⟩ := ints_in g4
    have hp' : v0 = .int .i64 p := by simpa using hp
    have hq' : v1 = .string q := by simpa using hq
    have hs' : v2 = .string s := by simpa using hs
    have hn' : v3 = .int .i64 n := by simpa using hn
    exact ⟨⟨p, bl q, bl s, n, A, kl, kc⟩, by rw [hp', hq', hs', hn', bs_bl, bs_bl], wf_i64 hn3, keep, k1, k2, k3, k4⟩
theorem opC_at' : ∀ (l : List Oo) (j : Nat), j < l.length * 5 → ∃ o, l[j / 5]? = some o ∧ (opC l)[j]? = [Value.int .i64 o.k, .string (bs o.nm), .string (bs o.b), .int .i64 o.n, .slice o.A o.kl o.kc][j % 5]?
  | [], j, h => by simp at h
  | o :: l, 0, _ => ⟨o, rfl, rfl⟩
  | o :: l, 1, _ => ⟨o, rfl, rfl⟩
  | o :: l, 2, _ => ⟨o, rfl, rfl⟩
  | o :: l, 3, _ => ⟨o, rfl, rfl⟩
  | o :: l, 4, _ => ⟨o, rfl, rfl⟩
  | o :: l, j + 5, h => by
    obtain ⟨p, h1, h2⟩ := opC_at' l j (by simp only [List.length_cons] at h; omega)
    refine ⟨p, ?_, ?_⟩
    · rw [show (j + 5) / 5 = j / 5 + 1 by omega]; simpa using h1
    · rw [opC_cons, show (j + 5) % 5 = j % 5 by omega]; simpa using h2
theorem opC_length (l : List Oo) : (opC l).length = l.length * 5 := by
  induction l with
  | nil => rfl
  | cons o l ih => rw [opC_cons]; simp only [List.length_cons, ih]; omega
theorem ops_in {fuel : Nat} {A : Option Addr} {n cap : Nat} {x : DataW H × List MemPlace} (h : DataW.trod enc Try.prog w 0 (fun _ => true) true fuel 22 [.slice A n cap] = some x) :
    ∃ l : List Oo, l.length = n ∧ RowAt w A (opC l) ∧ n ≤ 9223372036854775807 ∧ (∀ o ∈ l, I64 o.n) ∧ (∀ o ∈ l, Keeps w o) := by
  rcases open_slice Try.underlying22 h with ⟨hcs, _⟩ | ⟨a, len, c, m, f, D, Pl, hcs, _, hl, hm, hmm, hx, hel⟩
  · simp at hcs
    obtain ⟨rfl, rfl, rfl⟩ := hcs
    exact ⟨[], rfl, fun i y hy => by simp [opC] at hy, by omega, by simp, by simp⟩
  · simp at hcs
    obtain ⟨rfl, rfl, rfl⟩ := hcs
    simp only [if_true] at hmm
    have c35 : Try.prog.cellsOf 35 = 5 := by kernel_rfl
    rw [c35] at hel
    have := max_le
    have each : ∀ i, i < n → ∃ o : Oo, (∀ j, j < 5 → w.cell? (a.add (i * 5 + j)) = [Value.int .i64 o.k, .string (bs o.nm), .string (bs o.b), .int .i64 o.n, .slice o.A o.kl o.kc][j]?) ∧ I64 o.n ∧ Keeps w o := by
      intro i hi
      obtain ⟨cs', h1, h2⟩ := hel i (by omega)
      obtain ⟨_, hlen, hcell⟩ := World.cells?_some h1
      obtain ⟨o, rfl, ho, hk⟩ := op_cells h2
      refine ⟨o, fun j hj => ?_, ho, hk⟩
      have e := hcell j (by omega)
      rw [add_add] at e
      exact e
    have inh : Inhabited Oo := ⟨⟨0, [], [], 0, none, 0, 0⟩⟩
    obtain ⟨Y, hY⟩ := choose_lt each
    refine ⟨(List.range n).map Y, by simp, row_of fun j hj => ?_, by omega, fun o ho => ?_, fun o ho => ?_⟩
    · rw [opC_length, List.length_map, List.length_range] at hj
      obtain ⟨o, h1, h2⟩ := opC_at' ((List.range n).map Y) j (by simpa using hj)
      have hi : j / 5 < n := by omega
      obtain rfl : Y (j / 5) = o := by simpa [hi] using h1
      have e := (hY (j / 5) hi).1 (j % 5) (Nat.mod_lt _ (by omega))
      rw [show j / 5 * 5 + j % 5 = j by omega] at e
      rw [e, h2]
    · obtain ⟨i, hi, rfl⟩ := List.mem_map.1 ho
      exact (hY i (List.mem_range.1 hi)).2.1
    · obtain ⟨i, hi, rfl⟩ := List.mem_map.1 ho
      exact (hY i (List.mem_range.1 hi)).2.2
end
end Go.Proofs.Ytbgfkjafablfiaa
