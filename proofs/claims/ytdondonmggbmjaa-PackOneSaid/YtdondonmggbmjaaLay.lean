/-
  What the frames of the laws hand on of a slice that came in: things, pairs, flags.
-/
import Derived.Test.YtdondonmggbmjaaLawR
import Derived.Test.YtdondonmggbmjaaLawB
import Derived.Deep.Slices
import Derived.Deep.Grids
import Derived.OpenShut
import Derived.ShutString
import Derived.ChangeOld
import Derived.SizedLaws
namespace Go.Proofs.Ytdondonmggbmjaa
open Go.RowKit Go.Deep Go.ChangeShapes Go.WideShapes

theorem own : ownKnob Try.prog.godebug = none := by kernel_rfl
theorem laidOut : laidOutB Try.prog = true := by kernel_rfl

theorem wf_i64 {n : Int} (h : (Lit.int .i64 n).wf = true) : -9223372036854775808 ≤ n ∧ n ≤ 9223372036854775807 := by
  simp [Lit.wf, IntKind.min, IntKind.max, IntKind.signed, IntKind.bits] at h; omega
theorem spot_none {w : World} {a : Addr} {v : Value} (h : w.cell? a = some v) : ∃ b off, a = ⟨b, off, none⟩ ∧ b < w.heap.size := by
  obtain ⟨b, off, spot⟩ := a
  obtain rfl : spot = none := World.cell?_spot h
  exact ⟨b, off, rfl, World.block_lt_of_cell? w _ h⟩
theorem add_none (b off i : Nat) : (⟨b, off, none⟩ : Addr).add i = ⟨b, off + i, none⟩ := by unfold Addr.add; split <;> simp_all

section
variable {H : Type} {enc : TypeId × Value → H} {w : World}

/-- The address of a row whose first element is there. -/
theorem row_addr {a : Addr} {n k : Nat} {cs' : List Value} (hk : 0 < n) (h1 : w.cells? 0 (a.add (0 * k)) n = some cs') : ∃ b off, a = ⟨b, off, none⟩ ∧ b < w.heap.size := by
  obtain ⟨_, hlen, hcell⟩ := World.cells?_some h1
  have e := hcell 0 hk
  obtain ⟨v, hv⟩ : ∃ v, cs'[0]? = some v := ⟨_, List.getElem?_eq_getElem (by omega)⟩
  rw [hv, add_add, Nat.zero_mul] at e
  refine spot_none (v := v) ?_
  simpa [Addr.add] using e

/-- A slice of pairs as it came in. -/
theorem pairs_open {fuel : Nat} {A : Option Addr} {n cap : Nat} {x : DataW H × List MemPlace} (h : DataW.trod enc Try.prog w 0 (fun _ => true) true fuel 36 [.slice A n cap] = some x) : ARow w A n ∧ n ≤ maxLen := by
  rcases open_slice Try.underlying36 h with ⟨hcs, _⟩ | ⟨a, len, c, m, f, D, Pl, hcs, _, hl, hm, hmm, _, hel⟩
  · simp at hcs
    obtain ⟨rfl, rfl, rfl⟩ := hcs
    exact ⟨fun i hi => by omega, by unfold maxLen; omega⟩
  · simp at hcs
    obtain ⟨rfl, rfl, rfl⟩ := hcs
    simp only [if_true] at hmm
    have c42 : Try.prog.cellsOf 42 = 2 := by kernel_rfl
    rw [c42] at hel
    refine ⟨fun i hi => ?_, by omega⟩
    obtain ⟨cs0, h0, _⟩ := hel 0 (by omega)
    obtain ⟨b, off, rfl, hb⟩ := row_addr (by omega) h0
    obtain ⟨cs', h1, h2⟩ := hel i (by omega)
    obtain ⟨_, hlen, hcell⟩ := World.cells?_some h1
    obtain ⟨xs, k, _, _, _, hxl, hf⟩ := DataW.trod_array Try.underlying42 h2
    have c3 : Try.prog.cellsOf 3 = 1 := by kernel_rfl
    match cs', hlen with
    | [v0, v1], _ =>
      have g0 := hf 0 (by omega)
      have g1 := hf 1 (by omega)
      rw [c3] at g0 g1
      simp only [Nat.zero_mul, Nat.one_mul, List.drop_zero, List.take_succ_cons, List.take_zero, List.drop_succ_cons] at g0 g1
      obtain ⟨y0, hy0⟩ : ∃ y, xs[0]? = some y := ⟨_, List.getElem?_eq_getElem (by omega)⟩
      obtain ⟨y1, hy1⟩ : ∃ y, xs[1]? = some y := ⟨_, List.getElem?_eq_getElem (by omega)⟩
      rw [hy0] at g0
      rw [hy1] at g1
      obtain ⟨p, hp, _, _⟩ := DataW.trod_int Try.underlying3 g0
      obtain ⟨q, hq, _, _⟩ := DataW.trod_int Try.underlying3 g1
      have e0 := hcell 0 (by omega)
      have e1 := hcell 1 (by omega)
      rw [add_add, add_none] at e0 e1
      simp only [List.getElem?_cons_zero, List.getElem?_cons_succ] at e0 e1
      have hp' : v0 = .int .i64 p := by simpa using hp
      have hq' : v1 = .int .i64 q := by simpa using hq
      exact ⟨b, off, rfl, hb, p, q, by rw [← hp', ← e0]; rfl, by rw [← hq', ← e1]; rfl⟩

/-- A slice of flags as it came in. -/
theorem flags_open {fuel : Nat} {A : Option Addr} {n cap : Nat} {x : DataW H × List MemPlace} (h : DataW.trod enc Try.prog w 0 (fun _ => true) true fuel 50 [.slice A n cap] = some x) : BRow w A n ∧ n ≤ maxLen := by
  rcases open_bools Try.underlying50 Try.underlying4 (by kernel_rfl) h with ⟨hcs, _⟩ | ⟨a, len, c, B, hcs, _, hl, hm, _, hcell⟩
  · simp at hcs
    obtain ⟨rfl, rfl, rfl⟩ := hcs
    exact ⟨fun i hi => by omega, by unfold maxLen; omega⟩
  · simp at hcs
    obtain ⟨rfl, rfl, rfl⟩ := hcs
    refine ⟨fun i hi => ?_, by omega⟩
    have e0 := hcell 0 (by omega)
    obtain ⟨b, off, rfl, hb⟩ : ∃ b off, a = ⟨b, off, none⟩ ∧ b < w.heap.size := spot_none (v := .bool (B 0)) (by simpa [Addr.add] using e0)
    have e := hcell i (by omega)
    rw [add_none] at e
    exact ⟨b, off, rfl, hb, B i, e⟩

theorem weights_mem_all {P : Program} {e : TypeId} : ∀ {l : List (DataW H)} {d : DataW H}, d ∈ l → ∀ k ∈ d.weights P e, k ∈ DataW.weightsAll P e l
  | [], _, h, _, _ => by simp at h
  | d0 :: l, d, h, k, hk => by
    rw [DataW.weightsAll, List.mem_append]
    rcases List.mem_cons.1 h with rfl | h
    · exact .inl hk
    · exact .inr (weights_mem_all h k hk)
theorem offs48 : (Try.prog.underlying 49).map (fun d => match d with | .struct fs => fs.toList.map (fun f => (f.type, f.offset)) | _ => []) = some [(3, 0), (3, 1), (9, 2), (4, 3)] := by kernel_rfl

instance : Inhabited It := ⟨⟨0, 0, { data := #[] }, false⟩⟩
/-- A slice of things as it came in, each text within the reach. -/
theorem items_open {fuel : Nat} {A : Option Addr} {n cap : Nat} {x : DataW H × List MemPlace} (h : DataW.trod enc Try.prog w 0 (fun _ => true) true fuel 22 [.slice A n cap] = some x)
    (hsz : ∀ k ∈ x.1.weights Try.prog 22, k ≤ reachBytes) : ∃ xs : List It, xs.length = n ∧ IRow w A xs ∧ (∀ y ∈ xs, y.ok) ∧ n ≤ cap ∧ n ≤ maxLen := by
  rcases open_slice Try.underlying22 h with ⟨hcs, _⟩ | ⟨a, len, c, m, f, D, Pl, hcs, _, hl, hm, hmm, hx, hel⟩
  · simp at hcs
    obtain ⟨rfl, rfl, rfl⟩ := hcs
    exact ⟨[], rfl, fun i y hy => by simp at hy, by simp, Nat.le_refl _, by unfold maxLen; omega⟩
  · simp at hcs
    obtain ⟨rfl, rfl, rfl⟩ := hcs
    simp only [if_true] at hmm
    have c49 : Try.prog.cellsOf 49 = 4 := by kernel_rfl
    rw [c49] at hel
    obtain ⟨fs, hfs⟩ : ∃ fs : Array Field, Try.prog.underlying 49 = some (.struct fs) := ⟨_, Try.underlying49⟩
    have hoffs := offs48
    rw [hfs] at hoffs
    have hfl : fs.toList.map (fun f => (f.type, f.offset)) = [(3, 0), (3, 1), (9, 2), (4, 3)] := by simpa using hoffs
    have fld : ∀ j t o, [(3, 0), (3, 1), (9, 2), (4, 3)][j]? = some ((t, o) : TypeId × Nat) → ∃ g : Field, fs[j]? = some g ∧ g.type = t ∧ g.offset = o := fun j t o hj => by
      rw [← hfl, List.getElem?_map] at hj
      obtain ⟨g, hg, he⟩ := Option.map_eq_some_iff.1 hj
      simp only [Prod.mk.injEq] at he
      exact ⟨g, by simpa using hg, he.1, he.2⟩
    obtain ⟨f0, hf0, t0, o0⟩ := fld 0 3 0 rfl
    obtain ⟨f1, hf1, t1, o1⟩ := fld 1 3 1 rfl
    obtain ⟨f2, hf2, t2, o2⟩ := fld 2 9 2 rfl
    obtain ⟨f3, hf3, t3, o3⟩ := fld 3 4 3 rfl
    have hsize : fs.size = 4 := by
      have := congrArg List.length hfl
      simpa using this
    have c3 : Try.prog.cellsOf 3 = 1 := by kernel_rfl
    have c9 : Try.prog.cellsOf 9 = 1 := by kernel_rfl
    have c4 : Try.prog.cellsOf 4 = 1 := by kernel_rfl
    have each : ∀ i, i < n → ∃ y : It, w.cell? (a.add (i * 4)) = some (.int .i64 y.k) ∧ w.cell? (a.add (i * 4 + 1)) = some (.int .i64 y.n) ∧ w.cell? (a.add (i * 4 + 2)) = some (.string y.s) ∧ w.cell? (a.add (i * 4 + 3)) = some (.bool y.b) ∧
        (Lit.int .i64 y.k).wf = true ∧ (Lit.int .i64 y.n).wf = true ∧ D i = .agg [.lit (.int .i64 y.k), .lit (.int .i64 y.n), .lit (.string y.s.data.toList), .lit (.bool y.b)] := by
      intro i hi
      obtain ⟨cs', h1, h2⟩ := hel i (by omega)
      obtain ⟨_, hlen, hcell⟩ := World.cells?_some h1
      obtain ⟨xs, k, _, hxy, _, hxl, hf⟩ := DataW.trod_struct hfs h2
      match xs, hxl.trans hsize, cs', hlen with
      | [y0, y1, y2, y3], _, [v0, v1, v2, v3], _ =>
        have g0 := hf 0 f0 hf0
        have g1 := hf 1 f1 hf1
        have g2 := hf 2 f2 hf2
        have g3 := hf 3 f3 hf3
        rw [t0, o0, c3] at g0
        rw [t1, o1, c3] at g1
        rw [t2, o2, c9] at g2
        rw [t3, o3, c4] at g3
        simp only [List.drop_zero, List.take_succ_cons, List.take_zero, List.drop_succ_cons, List.getElem?_cons_zero, List.getElem?_cons_succ] at g0 g1 g2 g3
        obtain ⟨p, hp, hp2, hp3⟩ := DataW.trod_int Try.underlying3 g0
        obtain ⟨q, hq, hq2, hq3⟩ := DataW.trod_int Try.underlying3 g1
        obtain ⟨s, hs, hs2, _⟩ := DataW.trod_string Try.underlying9 g2
        obtain ⟨b, hb, hb2⟩ := DataW.trod_bool Try.underlying4 g3
        subst hp2 hq2 hs2 hb2
        have e0 := hcell 0 (by omega)
        have e1 := hcell 1 (by omega)
        have e2 := hcell 2 (by omega)
        have e3 := hcell 3 (by omega)
        rw [add_add] at e0 e1 e2 e3
        simp only [List.getElem?_cons_zero, List.getElem?_cons_succ, Nat.add_zero] at e0 e1 e2 e3
        have hp' : v0 = .int .i64 p := by simpa using hp
        have hq' : v1 = .int .i64 q := by simpa using hq
        have hs' : v2 = .string s := by simpa using hs
        have hb' : v3 = .bool b := by simpa using hb
        have hD := congrArg Prod.fst hxy
        exact ⟨⟨p, q, s, b⟩, by rw [← hp']; exact e0, by rw [← hq']; exact e1, by rw [← hs']; exact e2, by rw [← hb']; exact e3, hp3, hq3, by simpa using hD⟩
    obtain ⟨Y, hY⟩ := choose_lt each
    have small : ∀ i, i < n → (Y i).s.size ≤ 140737488355328 := fun i hi => by
      have hD := (hY i hi).2.2.2.2.2.2
      have hmem : D i ∈ (List.range n).map D := List.mem_map.2 ⟨i, List.mem_range.2 hi, rfl⟩
      have hw : (Y i).s.data.toList.length ∈ (D i).weights Try.prog 49 := by
        rw [hD]
        have hts : fs.toList.map (·.type) = [3, 3, 9, 4] := by
          have := congrArg (List.map Prod.fst) hfl
          rw [List.map_map] at this
          exact this
        simp [DataW.weights, hfs, hts, DataW.weightsEach]
      have := hsz _ (by
        rw [hx]
        simp only [DataW.weights, Try.underlying22, List.mem_cons, List.mem_append]
        exact .inr (.inl (weights_mem_all hmem _ hw)))
      rw [Lib.size_eq]
      have hr := reachBytes_lt
      omega
    refine ⟨(List.range n).map Y, by simp, fun i y hy => ?_, fun y hy => ?_, hl, by omega⟩
    · have hi : i < n := by have := (List.getElem?_eq_some_iff.1 hy).1; simpa using this
      obtain rfl : Y i = y := by simpa [hi] using hy
      obtain ⟨cs0, h0, _⟩ := hel 0 (by omega)
      obtain ⟨b, off, rfl, hb⟩ := row_addr (by omega) h0
      obtain ⟨e0, e1, e2, e3, _⟩ := hY i hi
      rw [add_none] at e0 e1 e2 e3
      exact ⟨b, off, rfl, hb, e0, e1, e2, e3⟩
    · obtain ⟨i, hi, rfl⟩ := List.mem_map.1 hy
      have hi' := List.mem_range.1 hi
      obtain ⟨_, _, _, _, w1, w2, _⟩ := hY i hi'
      exact ⟨wf_i64 w1, wf_i64 w2, small i hi'⟩
end
end Go.Proofs.Ytdondonmggbmjaa
