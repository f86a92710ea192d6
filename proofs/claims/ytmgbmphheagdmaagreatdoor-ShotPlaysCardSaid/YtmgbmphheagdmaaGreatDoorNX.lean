/-
  What the frames of layer 8's laws hand on: snapshots, what is played, losses; the library's table; a world in which the tables lie as their text lays them.
-/
import Derived.Test.YtmgbmphheagdmaaGreatDoorCards
import Derived.Test.YtmgbmphheagdmaaGreatDoorTie
import Derived.Test.YtmgbmphheagdmaaGreatDoorND
import Derived.Deep.DeepHandedRow
import Derived.Lib.LaidTab
import Derived.Stop.LaidErr
import Derived.Deep.Slices
import Derived.Deep.Grids
import Derived.SliceStrings
import Derived.ChangeSlices
import Derived.OpenShut
import Derived.ShutString
import Derived.ChangeOld
import Derived.SizedLaws
namespace Go.Proofs.YtmgbmphheagdmaaGreatDoor
open Go.RowKit Go.Deep Go.ChangeShapes Go.WideShapes
set_option linter.unusedVariables false
set_option linter.unusedSimpArgs false

/-- What is played. -/
structure Pl where
  k : Int
  q : Sh
  nm : List UInt8
  b : List UInt8
  n : Int
  A : Option Addr
  kl : Nat
  kc : Nat
def plC (o : Pl) : List Value := [.int .i64 o.k, .int .i64 o.q.i, .int .i64 o.q.t, .string (bs o.q.d), .string (bs o.nm), .string (bs o.b), .int .i64 o.n, .slice o.A o.kl o.kc]
structure PlOk (w : World) (o : Pl) : Prop where
  q : o.q.d.length ≤ 9223372036854775807
  nm : o.nm.length ≤ 9223372036854775807
  b : o.b.length ≤ 9223372036854775807
  n : I64 o.n
  keep : ∃ keep : List Int, keep.length = o.kl ∧ RowAt w o.A (intC keep) ∧ (∀ x ∈ keep, I64 x) ∧ o.kl ≤ 9223372036854775807
theorem own : ownKnob Tryz.prog.godebug = none := by kernel_rfl
theorem laidOut : laidOutB Tryz.prog = true := by kernel_rfl
theorem wf_u8 {n : Int} (h : (Lit.int .u8 n).wf = true) : 0 ≤ n ∧ n ≤ 255 := by
  simp [Lit.wf, IntKind.min, IntKind.max, IntKind.signed, IntKind.bits] at h; omega
/-- A row of things of k cells each, cell by cell. -/
theorem flat_at {α : Type} (C : α → List Value) (k : Nat) (hk : ∀ x, (C x).length = k) (h0 : 0 < k) : ∀ (l : List α) (j : Nat), j < l.length * k → ∃ o, l[j / k]? = some o ∧ (l.flatMap C)[j]? = (C o)[j % k]?
  | [], j, h => by simp at h
  | o :: l, j, h => by
    by_cases hj : j < k
    · refine ⟨o, by rw [Nat.div_eq_of_lt hj]; rfl, ?_⟩
      rw [Nat.mod_eq_of_lt hj, List.flatMap_cons, List.getElem?_append_left (by rw [hk]; exact hj)]
    · obtain ⟨i, rfl⟩ : ∃ i, j = i + k := ⟨j - k, by omega⟩
      obtain ⟨p, h1, h2⟩ := flat_at C k hk h0 l i (by rw [List.length_cons, Nat.succ_mul] at h; omega)
      refine ⟨p, ?_, ?_⟩
      · rw [Nat.add_div_right _ h0]; simpa using h1
      · rw [Nat.add_mod_right, List.flatMap_cons, List.getElem?_append_right (by rw [hk]; omega), hk, Nat.add_sub_cancel]; exact h2
theorem flat_length {α : Type} (C : α → List Value) (k : Nat) (hk : ∀ x, (C x).length = k) : ∀ l : List α, (l.flatMap C).length = l.length * k
  | [] => by simp
  | o :: l => by rw [List.flatMap_cons, List.length_append, hk, flat_length C k hk l, List.length_cons, Nat.succ_mul]; omega


section
variable {H : Type} {enc : TypeId × Value → H} {w : World}

theorem ints_in {fuel : Nat} {A : Option Addr} {n cap : Nat} {x : DataW H × List MemPlace} (h : DataW.trod enc Tryz.prog w 0 (fun _ => true) true fuel 34 [.slice A n cap] = some x) :
    ∃ l : List Int, l.length = n ∧ RowAt w A (intC l) ∧ (∀ z ∈ l, I64 z) ∧ n ≤ 9223372036854775807 := by
  rcases open_ints Tryz.underlying34 Tryz.underlying3 (by kernel_rfl) h with ⟨hcs, _⟩ | ⟨a, len, c, zs, hcs, _, hl, hm, hzs, _, hcell, hall⟩
  · simp at hcs
    obtain ⟨rfl, rfl, rfl⟩ := hcs
    exact ⟨[], rfl, fun i y hy => by simp [intC] at hy, by simp, by omega⟩
  · simp at hcs
    obtain ⟨rfl, rfl, rfl⟩ := hcs
    simp only [if_true] at hzs
    have := max_le
    refine ⟨zs.take n, by rw [List.length_take]; omega, row_of fun i hi => ?_, fun z hz => wf_i64 (hall z (List.mem_of_mem_take hz)), by omega⟩
    have hi2 : i < n ∧ i < zs.length := by simp [intC] at hi; omega
    rw [hcell i hi2.2]
    simp [intC, List.getElem?_take_of_lt hi2.1, List.getD_eq_getElem?_getD, List.getElem?_eq_getElem hi2.2]
theorem ints_slice {fuel : Nat} {v : Value} {x : DataW H × List MemPlace} (h : DataW.trod enc Tryz.prog w 0 (fun _ => true) true fuel 34 [v] = some x) : ∃ A n cap, v = .slice A n cap := by
  rcases open_ints Tryz.underlying34 Tryz.underlying3 (by kernel_rfl) h with ⟨hcs, _⟩ | ⟨a, len, c, zs, hcs, _⟩
  · simp at hcs
    exact ⟨_, _, _, hcs⟩
  · simp at hcs
    exact ⟨_, _, _, hcs⟩
/-- Things of k cells each. -/
theorem things_in {α : Type} [Inhabited α] (C : α → List Value) (P : α → Prop) (t e k : Nat) (hk : ∀ x, (C x).length = k) (h0 : 0 < k) (ht : Tryz.prog.underlying t = some (.slice e)) (hc : Tryz.prog.cellsOf e = k)
    (hone : ∀ (fuel : Nat) (cs : List Value) (x : DataW H × List MemPlace), DataW.trod enc Tryz.prog w 0 (fun _ => true) true fuel e cs = some x → ∃ o, cs = C o ∧ P o)
    {fuel : Nat} {A : Option Addr} {n cap : Nat} {x : DataW H × List MemPlace} (h : DataW.trod enc Tryz.prog w 0 (fun _ => true) true fuel t [.slice A n cap] = some x) :
    ∃ l : List α, l.length = n ∧ RowAt w A (l.flatMap C) ∧ n ≤ 9223372036854775807 ∧ ∀ o ∈ l, P o := by
  rcases open_slice ht h with ⟨hcs, _⟩ | ⟨a, len, c, m, f, D, Pl, hcs, _, hl, hm, hmm, hx, hel⟩
  · simp at hcs
    obtain ⟨rfl, rfl, rfl⟩ := hcs
    exact ⟨[], rfl, fun i y hy => by simp at hy, by omega, by simp⟩
  · simp at hcs
    obtain ⟨rfl, rfl, rfl⟩ := hcs
    simp only [if_true] at hmm
    rw [hc] at hel
    have := max_le
    have each : ∀ i, i < n → ∃ o : α, (∀ j, j < k → w.cell? (a.add (i * k + j)) = (C o)[j]?) ∧ P o := by
      intro i hi
      obtain ⟨cs', h1, h2⟩ := hel i (by omega)
      obtain ⟨_, hlen, hcell⟩ := World.cells?_some h1
      obtain ⟨o, rfl, ho⟩ := hone _ _ _ h2
      refine ⟨o, fun j hj => ?_, ho⟩
      have e := hcell j hj
      rw [add_add] at e
      exact e
    obtain ⟨Y, hY⟩ := choose_lt each
    refine ⟨(List.range n).map Y, by simp, row_of fun j hj => ?_, by omega, fun o ho => ?_⟩
    · rw [flat_length C k hk, List.length_map, List.length_range] at hj
      obtain ⟨o, h1, h2⟩ := flat_at C k hk h0 ((List.range n).map Y) j (by simpa using hj)
      have hi : j / k < n := (Nat.div_lt_iff_lt_mul h0).2 hj
      obtain rfl : Y (j / k) = o := by simpa [hi] using h1
      have e := (hY (j / k) hi).1 (j % k) (Nat.mod_lt _ h0)
      rw [Nat.mul_comm, Nat.div_add_mod] at e
      rw [e, h2]
    · obtain ⟨i, hi, rfl⟩ := List.mem_map.1 ho
      exact (hY i (List.mem_range.1 hi)).2
theorem c3 : Tryz.prog.cellsOf 3 = 1 := by kernel_rfl
theorem c9 : Tryz.prog.cellsOf 9 = 1 := by kernel_rfl
theorem c5 : Tryz.prog.cellsOf 5 = 1 := by kernel_rfl
theorem cI : Tryz.prog.cellsOf 34 = 1 := by kernel_rfl
theorem cS : Tryz.prog.cellsOf 33 = 3 := by kernel_rfl
theorem cP : Tryz.prog.cellsOf 36 = 8 := by kernel_rfl
theorem cL : Tryz.prog.cellsOf 59 = 2 := by kernel_rfl
theorem offsS : (Tryz.prog.underlying 33).map (fun d => match d with | .struct fs => fs.toList.map (fun f => (f.type, f.offset)) | _ => []) = some [(3, 0), (3, 1), (9, 2)] := by kernel_rfl
theorem offsP : (Tryz.prog.underlying 36).map (fun d => match d with | .struct fs => fs.toList.map (fun f => (f.type, f.offset)) | _ => []) = some [(3, 0), (33, 1), (9, 4), (9, 5), (3, 6), (34, 7)] := by kernel_rfl
theorem offsL : (Tryz.prog.underlying 59).map (fun d => match d with | .struct fs => fs.toList.map (fun f => (f.type, f.offset)) | _ => []) = some [(5, 0), (34, 1)] := by kernel_rfl
theorem fld_of {fs : Array Field} {l : List (TypeId × Nat)} (h : fs.toList.map (fun f => (f.type, f.offset)) = l) {j t o : Nat} (hj : l[j]? = some ((t, o) : TypeId × Nat)) : ∃ g : Field, fs[j]? = some g ∧ g.type = t ∧ g.offset = o := by
  rw [← h, List.getElem?_map] at hj
  obtain ⟨g, hg, he⟩ := Option.map_eq_some_iff.1 hj
  simp only [Prod.mk.injEq] at he
  exact ⟨g, by simpa using hg, he.1, he.2⟩
set_option maxRecDepth 100000 in
theorem snap_cells {fuel : Nat} {cs : List Value} {x : DataW H × List MemPlace} (h : DataW.trod enc Tryz.prog w 0 (fun _ => true) true fuel 33 cs = some x) :
    ∃ q : Sh, cs = snapC q ∧ q.d.length ≤ 9223372036854775807 := by
  obtain ⟨fs, hfs⟩ : ∃ fs : Array Field, Tryz.prog.underlying 33 = some (.struct fs) := ⟨_, Tryz.underlying33⟩
  have hoffs := offsS
  rw [hfs] at hoffs
  have hfl : fs.toList.map (fun f => (f.type, f.offset)) = [(3, 0), (3, 1), (9, 2)] := by simpa using hoffs
  obtain ⟨f0, hf0, t0, o0⟩ := fld_of hfl (j := 0) rfl
  obtain ⟨f1, hf1, t1, o1⟩ := fld_of hfl (j := 1) rfl
  obtain ⟨f2, hf2, t2, o2⟩ := fld_of hfl (j := 2) rfl
  have hsize : fs.size = 3 := by
    have := congrArg List.length hfl
    simpa using this
  obtain ⟨xs, k, _, _, hcl, hxl, hf⟩ := DataW.trod_struct hfs h
  rw [cS] at hcl
  match xs, hxl.trans hsize, cs, hcl with
  | [y0, y1, y2], _, [v0, v1, v2], _ =>
    have g0 := hf 0 f0 hf0
    rw [t0, o0, c3] at g0
    have g1 := hf 1 f1 hf1
    rw [t1, o1, c3] at g1
    have g2 := hf 2 f2 hf2
    rw [t2, o2, c9] at g2
    simp only [List.drop_zero, List.take_succ_cons, List.take_zero, List.drop_succ_cons, List.getElem?_cons_zero, List.getElem?_cons_succ] at g0 g1 g2
    obtain ⟨a, ha, _, _⟩ := DataW.trod_int Tryz.underlying3 g0
    obtain ⟨b, hb, _, _⟩ := DataW.trod_int Tryz.underlying3 g1
    obtain ⟨s, hs, _, hsz⟩ := DataW.trod_string Tryz.underlying9 g2
    have ha' : v0 = .int .i64 a := by simpa using ha
    have hb' : v1 = .int .i64 b := by simpa using hb
    have hs' : v2 = .string s := by simpa using hs
    exact ⟨⟨a, b, bl s⟩, by unfold snapC; rw [ha', hb', hs', bs_bl], by show (bl s).length ≤ _; rw [bl_length]; exact Nat.le_trans hsz max_le⟩
set_option maxRecDepth 100000 in
theorem pl_cells {fuel : Nat} {cs : List Value} {x : DataW H × List MemPlace} (h : DataW.trod enc Tryz.prog w 0 (fun _ => true) true fuel 36 cs = some x) :
    ∃ o : Pl, cs = plC o ∧ PlOk w o := by
  obtain ⟨fs, hfs⟩ : ∃ fs : Array Field, Tryz.prog.underlying 36 = some (.struct fs) := ⟨_, Tryz.underlying36⟩
  have hoffs := offsP
  rw [hfs] at hoffs
  have hfl : fs.toList.map (fun f => (f.type, f.offset)) = [(3, 0), (33, 1), (9, 4), (9, 5), (3, 6), (34, 7)] := by simpa using hoffs
  obtain ⟨f0, hf0, t0, o0⟩ := fld_of hfl (j := 0) rfl
  obtain ⟨f1, hf1, t1, o1⟩ := fld_of hfl (j := 1) rfl
  obtain ⟨f2, hf2, t2, o2⟩ := fld_of hfl (j := 2) rfl
  obtain ⟨f3, hf3, t3, o3⟩ := fld_of hfl (j := 3) rfl
  obtain ⟨f4, hf4, t4, o4⟩ := fld_of hfl (j := 4) rfl
  obtain ⟨f5, hf5, t5, o5⟩ := fld_of hfl (j := 5) rfl
  have hsize : fs.size = 6 := by
    have := congrArg List.length hfl
    simpa using this
  obtain ⟨xs, k, _, _, hcl, hxl, hf⟩ := DataW.trod_struct hfs h
  rw [cP] at hcl
  match xs, hxl.trans hsize, cs, hcl with
  | [y0, y1, y2, y3, y4, y5], _, [v0, v1, v2, v3, v4, v5, v6, v7], _ =>
    have g0 := hf 0 f0 hf0
    rw [t0, o0, c3] at g0
    have g1 := hf 1 f1 hf1
    rw [t1, o1, cS] at g1
    have g2 := hf 2 f2 hf2
    rw [t2, o2, c9] at g2
    have g3 := hf 3 f3 hf3
    rw [t3, o3, c9] at g3
    have g4 := hf 4 f4 hf4
    rw [t4, o4, c3] at g4
    have g5 := hf 5 f5 hf5
    rw [t5, o5, cI] at g5
    simp only [List.drop_zero, List.take_succ_cons, List.take_zero, List.drop_succ_cons, List.getElem?_cons_zero, List.getElem?_cons_succ] at g0 g1 g2 g3 g4 g5
    obtain ⟨a, ha, _, _⟩ := DataW.trod_int Tryz.underlying3 g0
    obtain ⟨q, hq, hql⟩ := snap_cells g1
    obtain ⟨s, hs, _, hsz⟩ := DataW.trod_string Tryz.underlying9 g2
    obtain ⟨u, hu, _, huz⟩ := DataW.trod_string Tryz.underlying9 g3
    obtain ⟨b, hb, _, hbw⟩ := DataW.trod_int Tryz.underlying3 g4
    obtain ⟨A, n, cap, rfl⟩ := ints_slice g5
    obtain ⟨l, k1, k2, k3, k4⟩ := ints_in g5
    have ha' : v0 = .int .i64 a := by simpa using ha
    unfold snapC at hq
    simp only [List.cons.injEq, and_true] at hq
    obtain ⟨q0, q1, q2⟩ := hq
    have hs' : v4 = .string s := by simpa using hs
    have hu' : v5 = .string u := by simpa using hu
    have hb' : v6 = .int .i64 b := by simpa using hb
    exact ⟨⟨a, q, bl s, bl u, b, A, n, cap⟩, by unfold plC; rw [ha', q0, q1, q2, hs', hu', hb', bs_bl, bs_bl], hql, by show (bl s).length ≤ _; rw [bl_length]; exact Nat.le_trans hsz max_le, by show (bl u).length ≤ _; rw [bl_length]; exact Nat.le_trans huz max_le, wf_i64 hbw, l, k1, k2, k3, k4⟩
set_option maxRecDepth 100000 in
theorem loss_cells {fuel : Nat} {cs : List Value} {x : DataW H × List MemPlace} (h : DataW.trod enc Tryz.prog w 0 (fun _ => true) true fuel 59 cs = some x) :
    ∃ (z : Int) (A : Option Addr) (n cap : Nat) (l : List Int), cs = [.int .u8 z, .slice A n cap] ∧ (0 ≤ z ∧ z ≤ 255) ∧ l.length = n ∧ RowAt w A (intC l) ∧ (∀ z ∈ l, I64 z) ∧ n ≤ 9223372036854775807 := by
  obtain ⟨fs, hfs⟩ : ∃ fs : Array Field, Tryz.prog.underlying 59 = some (.struct fs) := ⟨_, Tryz.underlying59⟩
  have hoffs := offsL
  rw [hfs] at hoffs
  have hfl : fs.toList.map (fun f => (f.type, f.offset)) = [(5, 0), (34, 1)] := by simpa using hoffs
  obtain ⟨f0, hf0, t0, o0⟩ := fld_of hfl (j := 0) rfl
  obtain ⟨f1, hf1, t1, o1⟩ := fld_of hfl (j := 1) rfl
  have hsize : fs.size = 2 := by
    have := congrArg List.length hfl
    simpa using this
  obtain ⟨xs, k, _, _, hcl, hxl, hf⟩ := DataW.trod_struct hfs h
  rw [cL] at hcl
  match xs, hxl.trans hsize, cs, hcl with
  | [y0, y1], _, [v0, v1], _ =>
    have g0 := hf 0 f0 hf0
    have g1 := hf 1 f1 hf1
    rw [t0, o0, c5] at g0
    rw [t1, o1, cI] at g1
    simp only [List.drop_zero, List.take_succ_cons, List.take_zero, List.drop_succ_cons, List.getElem?_cons_zero, List.getElem?_cons_succ] at g0 g1
    obtain ⟨z, hz, _, hzw⟩ := DataW.trod_int Tryz.underlying5 g0
    obtain ⟨A, n, cap, rfl⟩ := ints_slice g1
    obtain ⟨l, k1, k2, k3, k4⟩ := ints_in g1
    have hz' : v0 = .int .u8 z := by simpa using hz
    exact ⟨z, A, n, cap, l, by rw [hz'], wf_u8 hzw, k1, k2, k3, k4⟩
theorem snaps_in {fuel : Nat} {A : Option Addr} {n cap : Nat} {x : DataW H × List MemPlace} (h : DataW.trod enc Tryz.prog w 0 (fun _ => true) true fuel 62 [.slice A n cap] = some x) :
    ∃ l : List Sh, l.length = n ∧ RowAt w A (shC l) ∧ n ≤ 9223372036854775807 ∧ ∀ q ∈ l, q.d.length ≤ 9223372036854775807 :=
  haveI : Inhabited Sh := ⟨⟨0, 0, []⟩⟩
  things_in snapC (fun q => q.d.length ≤ 9223372036854775807) 62 33 3 (fun _ => rfl) (by omega) Tryz.underlying62 cS (fun _ _ _ h => snap_cells h) h
theorem pls_in {fuel : Nat} {A : Option Addr} {n cap : Nat} {x : DataW H × List MemPlace} (h : DataW.trod enc Tryz.prog w 0 (fun _ => true) true fuel 22 [.slice A n cap] = some x) :
    ∃ l : List Pl, l.length = n ∧ RowAt w A (l.flatMap plC) ∧ n ≤ 9223372036854775807 ∧ ∀ o ∈ l, PlOk w o :=
  haveI : Inhabited Pl := ⟨⟨0, ⟨0, 0, []⟩, [], [], 0, none, 0, 0⟩⟩
  things_in plC (PlOk w) 22 36 8 (fun _ => rfl) (by omega) Tryz.underlying22 cP (fun _ _ _ h => pl_cells h) h
end
theorem gPow : Tryz.prog.globalNamed "internal/strconv.uint64pow10" = some 0 := by kernel_rfl
theorem tPow : (Tryz.prog.globals[0]?).map (·.type) = some 175 := by kernel_rfl
theorem cells87 : Tryz.prog.cellsOf 87 = 1 := by kernel_rfl
theorem cells175 : Tryz.prog.cellsOf 175 = 20 := by kernel_rfl
def allLaid : List (String × DataW Unit) := [("math/bits.deBruijn32tab", Rows.laid_math_bits_deBruijn32tab), ("math/bits.deBruijn64tab", Rows.laid_math_bits_deBruijn64tab), ("internal/strconv.uint64pow10", Rows.laid_internal_strconv_uint64pow10)]
theorem tab_of {W : World} (h : laidMetH Tryz.prog allLaid W) : Tab W := by
  rw [MakeChecks.laidMetH_plain _ _ _ (by kernel_rfl)] at h
  exact Lib.tabIs_of_head gPow tPow Tryz.underlying175 Tryz.underlying87 cells87 cells175 (rest := []) h.tail.tail
/-- A variable's cells laid anew. -/
def layCells (k : IntKind) (zs : List Int) : Obj → Obj
  | .cells _ t frozen => .cells (zs.map (Value.int k)).toArray t frozen
  | o => o
def db32Z : List Int := [0, 1, 28, 2, 29, 14, 24, 3, 30, 22, 20, 15, 25, 17, 4, 8, 31, 27, 13, 23, 21, 19, 16, 7, 26, 12, 18, 6, 11, 5, 10, 9]
def db64Z : List Int := [0, 1, 56, 2, 57, 49, 28, 3, 61, 58, 42, 50, 38, 29, 17, 4, 62, 47, 59, 36, 45, 43, 51, 22, 53, 39, 33, 30, 24, 18, 12, 5, 63, 55, 48, 27, 60, 41, 37, 16, 46, 35, 44, 21, 52, 32, 23, 11, 54, 26, 40, 15, 34, 20, 31, 10, 25, 14, 19, 9, 13, 8, 7, 6]
/-- A world in which the tables lie as the library's text lays them. -/
noncomputable def laidWorld (os : Os) : World :=
  { World.holding Tryz.prog os ⟨#[], #[], []⟩ with heap := (((World.holding Tryz.prog os ⟨#[], #[], []⟩).heap.modify 0 (layCells .u64 Lib.pow10Tab)).modify 2 (layCells .u8 db32Z)).modify 3 (layCells .u8 db64Z) }
end Go.Proofs.YtmgbmphheagdmaaGreatDoor
