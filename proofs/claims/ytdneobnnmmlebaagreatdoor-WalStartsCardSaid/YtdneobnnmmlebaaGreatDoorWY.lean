/-
  What the frames of layer 7's laws hand on: texts, bytes, numbers, records, records to put, what the crash keeps.
-/
import Derived.Test.YtdneobnnmmlebaaGreatDoorWX
import Derived.Deep.Slices
import Derived.Deep.Grids
import Derived.SliceStrings
import Derived.ChangeSlices
import Derived.OpenShut
import Derived.ShutString
import Derived.ChangeOld
import Derived.SizedLaws
namespace Go.Proofs.YtdneobnnmmlebaaGreatDoor
open Go.RowKit Go.Deep Go.ChangeShapes Go.WideShapes

theorem own : ownKnob Tryz.prog.godebug = none := by kernel_rfl
theorem laidOut : laidOutB Tryz.prog = true := by kernel_rfl
theorem wf_u8 {n : Int} (h : (Lit.int .u8 n).wf = true) : 0 ≤ n ∧ n ≤ 255 := by
  simp [Lit.wf, IntKind.min, IntKind.max, IntKind.signed, IntKind.bits] at h; omega
/-- A row of things of k cells each, cell by cell. -/
theorem flat_at {α : Type} (C : α → List Value) (k : Nat) (hk : ∀ x, (C x).length = k) (h0 : 0 < k) : ∀ (l : List α) (j : Nat), j < l.length * k → ∃ o, l[j / k]? = some o ∧ (l.flatMap C)[j]? = (C o)[j % k]?
  | [], j, h => by simp at h
  | o :: l, j, h => by
    by_cases hj : j < k
    · refine ⟨o, by rw [Nat.div_eq_of_lt hj]; rfl, ?_⟩
      rw [Nat.mod_eq_of_lt hj, List.flatMap_cons, List.getElem?_append_left (by rw [hk]; exact hj)]
    · obtain ⟨i, rfl⟩ : ∃ i, j = i + k := ⟨j - k, by omega⟩
      obtain ⟨p, h1, h2⟩ := flat_at C k hk h0 l i (by rw [List.length_cons, Nat.succ_mul] at h; omega)
      refine ⟨p, ?_, ?_⟩
      · rw [Nat.add_div_right _ h0]; simpa using h1
      · rw [Nat.add_mod_right, List.flatMap_cons, List.getElem?_append_right (by rw [hk]; omega), hk, Nat.add_sub_cancel]; exact h2
theorem flat_length {α : Type} (C : α → List Value) (k : Nat) (hk : ∀ x, (C x).length = k) : ∀ l : List α, (l.flatMap C).length = l.length * k
  | [] => by simp
  | o :: l => by rw [List.flatMap_cons, List.length_append, hk, flat_length C k hk l, List.length_cons, Nat.succ_mul]; omega

section
variable {H : Type} {enc : TypeId × Value → H} {w : World}

theorem texts_in {fuel : Nat} {A : Option Addr} {n cap : Nat} {x : DataW H × List MemPlace} (h : DataW.trod enc Tryz.prog w 0 (fun _ => true) true fuel 51 [.slice A n cap] = some x) :
    ∃ l : List (List UInt8), l.length = n ∧ RowAt w A (strC l) ∧ n ≤ 9223372036854775807 ∧ ∀ s ∈ l, s.length ≤ 9223372036854775807 := by
  rcases open_strings Tryz.underlying51 Tryz.underlying9 (by kernel_rfl) h with ⟨hcs, _⟩ | ⟨a, len, c, ss, hcs, _, hl, hm, hss, _, hcell, hall⟩
  · simp at hcs
    obtain ⟨rfl, rfl, rfl⟩ := hcs
    exact ⟨[], rfl, fun i y hy => by simp [strC] at hy, by omega, by simp⟩
  · simp at hcs
    obtain ⟨rfl, rfl, rfl⟩ := hcs
    simp only [if_true] at hss
    have := max_le
    refine ⟨(ss.take n).map bl, by rw [List.length_map, List.length_take]; omega, ?_, by omega, fun s hs => ?_⟩
    · refine row_of fun i hi => ?_
      rw [strC_length, List.length_map, List.length_take] at hi
      have hi2 : i < ss.length := by omega
      rw [hcell i hi2]
      have : ((ss.take n).map bl)[i]? = some (bl (ss.getD i ByteArray.empty)) := by
        rw [List.getElem?_map, List.getElem?_take_of_lt (by omega), List.getD_eq_getElem?_getD, List.getElem?_eq_getElem hi2]; rfl
      rw [strC_at _ _ _ this, bs_bl]
    · obtain ⟨t, ht, rfl⟩ := List.mem_map.1 hs
      rw [bl_length]
      exact Nat.le_trans (hall t (List.mem_of_mem_take ht)) this
theorem ints_in {fuel : Nat} {A : Option Addr} {n cap : Nat} {x : DataW H × List MemPlace} (h : DataW.trod enc Tryz.prog w 0 (fun _ => true) true fuel 23 [.slice A n cap] = some x) :
    ∃ l : List Int, l.length = n ∧ RowAt w A (intC l) ∧ (∀ z ∈ l, I64 z) ∧ n ≤ 9223372036854775807 := by
  rcases open_ints Tryz.underlying23 Tryz.underlying3 (by kernel_rfl) h with ⟨hcs, _⟩ | ⟨a, len, c, zs, hcs, _, hl, hm, hzs, _, hcell, hall⟩
  · simp at hcs
    obtain ⟨rfl, rfl, rfl⟩ := hcs
    exact ⟨[], rfl, fun i y hy => by simp [intC] at hy, by simp, by omega⟩
  · simp at hcs
    obtain ⟨rfl, rfl, rfl⟩ := hcs
    simp only [if_true] at hzs
    have := max_le
    refine ⟨zs.take n, by rw [List.length_take]; omega, row_of fun i hi => ?_, fun z hz => wf_i64 (hall z (List.mem_of_mem_take hz)), by omega⟩
    have hi2 : i < n ∧ i < zs.length := by simp [intC] at hi; omega
    rw [hcell i hi2.2]
    simp [intC, List.getElem?_take_of_lt hi2.1, List.getD_eq_getElem?_getD, List.getElem?_eq_getElem hi2.2]
theorem ints_slice {fuel : Nat} {v : Value} {x : DataW H × List MemPlace} (h : DataW.trod enc Tryz.prog w 0 (fun _ => true) true fuel 23 [v] = some x) : ∃ A n cap, v = .slice A n cap := by
  rcases open_ints Tryz.underlying23 Tryz.underlying3 (by kernel_rfl) h with ⟨hcs, _⟩ | ⟨a, len, c, zs, hcs, _⟩
  · simp at hcs
    exact ⟨_, _, _, hcs⟩
  · simp at hcs
    exact ⟨_, _, _, hcs⟩
theorem bytes_in {fuel : Nat} {A : Option Addr} {n cap : Nat} {x : DataW H × List MemPlace} (h : DataW.trod enc Tryz.prog w 0 (fun _ => true) true fuel 50 [.slice A n cap] = some x) :
    ∃ l : List UInt8, l.length = n ∧ RowAt w A (byC l) ∧ n ≤ 9223372036854775807 := by
  rcases open_ints Tryz.underlying50 Tryz.underlying5 (by kernel_rfl) h with ⟨hcs, _⟩ | ⟨a, len, c, zs, hcs, _, hl, hm, hzs, _, hcell, hall⟩
  · simp at hcs
    obtain ⟨rfl, rfl, rfl⟩ := hcs
    exact ⟨[], rfl, fun i y hy => by rw [byC_eq] at hy; simp at hy, by omega⟩
  · simp at hcs
    obtain ⟨rfl, rfl, rfl⟩ := hcs
    simp only [if_true] at hzs
    have := max_le
    refine ⟨(zs.take n).map fun z => UInt8.ofNat z.toNat, by rw [List.length_map, List.length_take]; omega, row_of fun i hi => ?_, by omega⟩
    have hi2 : i < n ∧ i < zs.length := by rw [byC_length, List.length_map, List.length_take] at hi; omega
    rw [hcell i hi2.2, byC_eq, List.getElem?_map, List.getElem?_map, List.getElem?_take_of_lt hi2.1, List.getD_eq_getElem?_getD, List.getElem?_eq_getElem hi2.2]
    have hz := wf_u8 (hall zs[i] (List.getElem_mem hi2.2))
    simp only [Option.map_some, Option.getD_some]
    have e : (UInt8.ofNat zs[i].toNat).toNat = zs[i].toNat := by rw [UInt8.toNat_ofNat']; omega
    rw [e, Int.toNat_of_nonneg hz.1]
/-- Things of k cells each. -/
theorem things_in {α : Type} [Inhabited α] (C : α → List Value) (P : α → Prop) (t e k : Nat) (hk : ∀ x, (C x).length = k) (h0 : 0 < k) (ht : Tryz.prog.underlying t = some (.slice e)) (hc : Tryz.prog.cellsOf e = k)
    (hone : ∀ (fuel : Nat) (cs : List Value) (x : DataW H × List MemPlace), DataW.trod enc Tryz.prog w 0 (fun _ => true) true fuel e cs = some x → ∃ o, cs = C o ∧ P o)
    {fuel : Nat} {A : Option Addr} {n cap : Nat} {x : DataW H × List MemPlace} (h : DataW.trod enc Tryz.prog w 0 (fun _ => true) true fuel t [.slice A n cap] = some x) :
    ∃ l : List α, l.length = n ∧ RowAt w A (l.flatMap C) ∧ n ≤ 9223372036854775807 ∧ ∀ o ∈ l, P o := by
  rcases open_slice ht h with ⟨hcs, _⟩ | ⟨a, len, c, m, f, D, Pl, hcs, _, hl, hm, hmm, hx, hel⟩
  · simp at hcs
    obtain ⟨rfl, rfl, rfl⟩ := hcs
    exact ⟨[], rfl, fun i y hy => by simp at hy, by omega, by simp⟩
  · simp at hcs
    obtain ⟨rfl, rfl, rfl⟩ := hcs
    simp only [if_true] at hmm
    rw [hc] at hel
    have := max_le
    have each : ∀ i, i < n → ∃ o : α, (∀ j, j < k → w.cell? (a.add (i * k + j)) = (C o)[j]?) ∧ P o := by
      intro i hi
      obtain ⟨cs', h1, h2⟩ := hel i (by omega)
      obtain ⟨_, hlen, hcell⟩ := World.cells?_some h1
      obtain ⟨o, rfl, ho⟩ := hone _ _ _ h2
      refine ⟨o, fun j hj => ?_, ho⟩
      have e := hcell j hj
      rw [add_add] at e
      exact e
    obtain ⟨Y, hY⟩ := choose_lt each
    refine ⟨(List.range n).map Y, by simp, row_of fun j hj => ?_, by omega, fun o ho => ?_⟩
    · rw [flat_length C k hk, List.length_map, List.length_range] at hj
      obtain ⟨o, h1, h2⟩ := flat_at C k hk h0 ((List.range n).map Y) j (by simpa using hj)
      have hi : j / k < n := (Nat.div_lt_iff_lt_mul h0).2 hj
      obtain rfl : Y (j / k) = o := by simpa [hi] using h1
      have e := (hY (j / k) hi).1 (j % k) (Nat.mod_lt _ h0)
      rw [Nat.mul_comm, Nat.div_add_mod] at e
      rw [e, h2]
    · obtain ⟨i, hi, rfl⟩ := List.mem_map.1 ho
      exact (hY i (List.mem_range.1 hi)).2
theorem c3 : Tryz.prog.cellsOf 3 = 1 := by kernel_rfl
theorem c9 : Tryz.prog.cellsOf 9 = 1 := by kernel_rfl
theorem cB : Tryz.prog.cellsOf 4 = 1 := by kernel_rfl
theorem c5 : Tryz.prog.cellsOf 5 = 1 := by kernel_rfl
theorem cI : Tryz.prog.cellsOf 23 = 1 := by kernel_rfl
theorem cR : Tryz.prog.cellsOf 28 = 5 := by kernel_rfl
theorem cP : Tryz.prog.cellsOf 30 = 6 := by kernel_rfl
theorem cL : Tryz.prog.cellsOf 46 = 2 := by kernel_rfl
theorem offsR : (Tryz.prog.underlying 28).map (fun d => match d with | .struct fs => fs.toList.map (fun f => (f.type, f.offset)) | _ => []) = some [(3, 0), (3, 1), (3, 2), (3, 3), (9, 4)] := by kernel_rfl
theorem offsP : (Tryz.prog.underlying 30).map (fun d => match d with | .struct fs => fs.toList.map (fun f => (f.type, f.offset)) | _ => []) = some [(28, 0), (4, 5)] := by kernel_rfl
theorem offsL : (Tryz.prog.underlying 46).map (fun d => match d with | .struct fs => fs.toList.map (fun f => (f.type, f.offset)) | _ => []) = some [(5, 0), (23, 1)] := by kernel_rfl
theorem fld_of {fs : Array Field} {l : List (TypeId × Nat)} (h : fs.toList.map (fun f => (f.type, f.offset)) = l) {j t o : Nat} (hj : l[j]? = some ((t, o) : TypeId × Nat)) : ∃ g : Field, fs[j]? = some g ∧ g.type = t ∧ g.offset = o := by
  rw [← h, List.getElem?_map] at hj
  obtain ⟨g, hg, he⟩ := Option.map_eq_some_iff.1 hj
  simp only [Prod.mk.injEq] at he
  exact ⟨g, by simpa using hg, he.1, he.2⟩
set_option maxRecDepth 100000 in
theorem rec_cells {fuel : Nat} {cs : List Value} {x : DataW H × List MemPlace} (h : DataW.trod enc Tryz.prog w 0 (fun _ => true) true fuel 28 cs = some x) :
    ∃ r : Rc, cs = recC1 r ∧ r.data.length ≤ 9223372036854775807 := by
  obtain ⟨fs, hfs⟩ : ∃ fs : Array Field, Tryz.prog.underlying 28 = some (.struct fs) := ⟨_, Tryz.underlying28⟩
  have hoffs := offsR
  rw [hfs] at hoffs
  have hfl : fs.toList.map (fun f => (f.type, f.offset)) = [(3, 0), (3, 1), (3, 2), (3, 3), (9, 4)] := by simpa using hoffs
  obtain ⟨f0, hf0, t0, o0⟩ := fld_of hfl (j := 0) rfl
  obtain ⟨f1, hf1, t1, o1⟩ := fld_of hfl (j := 1) rfl
  obtain ⟨f2, hf2, t2, o2⟩ := fld_of hfl (j := 2) rfl
  obtain ⟨f3, hf3, t3, o3⟩ := fld_of hfl (j := 3) rfl
  obtain ⟨f4, hf4, t4, o4⟩ := fld_of hfl (j := 4) rfl
  have hsize : fs.size = 5 := by
    have := congrArg List.length hfl
    simpa using this
  obtain ⟨xs, k, _, _, hcl, hxl, hf⟩ := DataW.trod_struct hfs h
  rw [cR] at hcl
  match xs, hxl.trans hsize, cs, hcl with
  | [y0, y1, y2, y3, y4], _, [v0, v1, v2, v3, v4], _ =>
    have g0 := hf 0 f0 hf0
    have g1 := hf 1 f1 hf1
    have g2 := hf 2 f2 hf2
    have g3 := hf 3 f3 hf3
    have g4 := hf 4 f4 hf4
    rw [t0, o0, c3] at g0
    rw [t1, o1, c3] at g1
    rw [t2, o2, c3] at g2
    rw [t3, o3, c3] at g3
    rw [t4, o4, c9] at g4
    simp only [List.drop_zero, List.take_succ_cons, List.take_zero, List.drop_succ_cons, List.getElem?_cons_zero, List.getElem?_cons_succ] at g0 g1 g2 g3 g4
    obtain ⟨a, ha, _, _⟩ := DataW.trod_int Tryz.underlying3 g0
    obtain ⟨b, hb, _, _⟩ := DataW.trod_int Tryz.underlying3 g1
    obtain ⟨c, hc, _, _⟩ := DataW.trod_int Tryz.underlying3 g2
    obtain ⟨d, hd, _, _⟩ := DataW.trod_int Tryz.underlying3 g3
    obtain ⟨s, hs, _, hsz⟩ := DataW.trod_string Tryz.underlying9 g4
    have ha' : v0 = .int .i64 a := by simpa using ha
    have hb' : v1 = .int .i64 b := by simpa using hb
    have hc' : v2 = .int .i64 c := by simpa using hc
    have hd' : v3 = .int .i64 d := by simpa using hd
    have hs' : v4 = .string s := by simpa using hs
    exact ⟨⟨a, b, c, d, bl s⟩, by unfold recC1; rw [ha', hb', hc', hd', hs', bs_bl], by show (bl s).length ≤ _; rw [bl_length]; exact Nat.le_trans hsz max_le⟩
set_option maxRecDepth 100000 in
theorem put_cells {fuel : Nat} {cs : List Value} {x : DataW H × List MemPlace} (h : DataW.trod enc Tryz.prog w 0 (fun _ => true) true fuel 30 cs = some x) :
    ∃ p : Pt, cs = ptC1 p ∧ p.1.data.length ≤ 9223372036854775807 := by
  obtain ⟨fs, hfs⟩ : ∃ fs : Array Field, Tryz.prog.underlying 30 = some (.struct fs) := ⟨_, Tryz.underlying30⟩
  have hoffs := offsP
  rw [hfs] at hoffs
  have hfl : fs.toList.map (fun f => (f.type, f.offset)) = [(28, 0), (4, 5)] := by simpa using hoffs
  obtain ⟨f0, hf0, t0, o0⟩ := fld_of hfl (j := 0) rfl
  obtain ⟨f1, hf1, t1, o1⟩ := fld_of hfl (j := 1) rfl
  have hsize : fs.size = 2 := by
    have := congrArg List.length hfl
    simpa using this
  obtain ⟨xs, k, _, _, hcl, hxl, hf⟩ := DataW.trod_struct hfs h
  rw [cP] at hcl
  match xs, hxl.trans hsize, cs, hcl with
  | [y0, y1], _, [v0, v1, v2, v3, v4, v5], _ =>
    have g0 := hf 0 f0 hf0
    have g1 := hf 1 f1 hf1
    rw [t0, o0, cR] at g0
    rw [t1, o1, cB] at g1
    simp only [List.drop_zero, List.take_succ_cons, List.take_zero, List.drop_succ_cons, List.getElem?_cons_zero, List.getElem?_cons_succ] at g0 g1
    obtain ⟨r, hr, hrl⟩ := rec_cells g0
    obtain ⟨b, hb, _⟩ := DataW.trod_bool Tryz.underlying4 g1
    have hb' : v5 = .bool b := by simpa using hb
    refine ⟨(r, b), ?_, hrl⟩
    unfold ptC1
    simp only
    rw [← hr, hb']
    rfl
set_option maxRecDepth 100000 in
theorem loss_cells {fuel : Nat} {cs : List Value} {x : DataW H × List MemPlace} (h : DataW.trod enc Tryz.prog w 0 (fun _ => true) true fuel 46 cs = some x) :
    ∃ (z : Int) (A : Option Addr) (n cap : Nat) (l : List Int), cs = [.int .u8 z, .slice A n cap] ∧ (0 ≤ z ∧ z ≤ 255) ∧ l.length = n ∧ RowAt w A (intC l) ∧ (∀ z ∈ l, I64 z) ∧ n ≤ 9223372036854775807 := by
  obtain ⟨fs, hfs⟩ : ∃ fs : Array Field, Tryz.prog.underlying 46 = some (.struct fs) := ⟨_, Tryz.underlying46⟩
  have hoffs := offsL
  rw [hfs] at hoffs
  have hfl : fs.toList.map (fun f => (f.type, f.offset)) = [(5, 0), (23, 1)] := by simpa using hoffs
  obtain ⟨f0, hf0, t0, o0⟩ := fld_of hfl (j := 0) rfl
  obtain ⟨f1, hf1, t1, o1⟩ := fld_of hfl (j := 1) rfl
  have hsize : fs.size = 2 := by
    have := congrArg List.length hfl
    simpa using this
  obtain ⟨xs, k, _, _, hcl, hxl, hf⟩ := DataW.trod_struct hfs h
  rw [cL] at hcl
  match xs, hxl.trans hsize, cs, hcl with
  | [y0, y1], _, [v0, v1], _ =>
    have g0 := hf 0 f0 hf0
    have g1 := hf 1 f1 hf1
    rw [t0, o0, c5] at g0
    rw [t1, o1, cI] at g1
    simp only [List.drop_zero, List.take_succ_cons, List.take_zero, List.drop_succ_cons, List.getElem?_cons_zero, List.getElem?_cons_succ] at g0 g1
    obtain ⟨z, hz, _, hzw⟩ := DataW.trod_int Tryz.underlying5 g0
    obtain ⟨A, n, cap, rfl⟩ := ints_slice g1
    obtain ⟨l, k1, k2, k3, k4⟩ := ints_in g1
    have hz' : v0 = .int .u8 z := by simpa using hz
    exact ⟨z, A, n, cap, l, by rw [hz'], wf_u8 hzw, k1, k2, k3, k4⟩
theorem recs_in {fuel : Nat} {A : Option Addr} {n cap : Nat} {x : DataW H × List MemPlace} (h : DataW.trod enc Tryz.prog w 0 (fun _ => true) true fuel 25 [.slice A n cap] = some x) :
    ∃ l : List Rc, l.length = n ∧ RowAt w A (rcC l) ∧ n ≤ 9223372036854775807 ∧ ∀ r ∈ l, r.data.length ≤ 9223372036854775807 :=
  haveI : Inhabited Rc := ⟨⟨0, 0, 0, 0, []⟩⟩
  things_in recC1 (fun r => r.data.length ≤ 9223372036854775807) 25 28 5 (fun _ => rfl) (by omega) Tryz.underlying25 cR (fun _ _ _ h => rec_cells h) h
theorem puts_in {fuel : Nat} {A : Option Addr} {n cap : Nat} {x : DataW H × List MemPlace} (h : DataW.trod enc Tryz.prog w 0 (fun _ => true) true fuel 22 [.slice A n cap] = some x) :
    ∃ l : List Pt, l.length = n ∧ RowAt w A (ptC l) ∧ n ≤ 9223372036854775807 ∧ ∀ p ∈ l, p.1.data.length ≤ 9223372036854775807 :=
  haveI : Inhabited Pt := ⟨(⟨0, 0, 0, 0, []⟩, false)⟩
  things_in ptC1 (fun p => p.1.data.length ≤ 9223372036854775807) 22 30 6 (fun _ => rfl) (by omega) Tryz.underlying22 cP (fun _ _ _ h => put_cells h) h
end
end Go.Proofs.YtdneobnnmmlebaaGreatDoor
