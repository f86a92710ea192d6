/-
  What the frames of the laws hand on of a span and of a slice of spans that came in.
-/
import Derived.Test.YtfjgikcbngfhmaaSL
import Derived.Deep.Slices
import Derived.Deep.Grids
import Derived.OpenShut
import Derived.ShutString
import Derived.ChangeOld
import Derived.SizedLaws
import Derived.Lib.SmallJoins
namespace Go.Proofs.Ytfjgikcbngfhmaa
open Go.RowKit Go.Deep Go.ChangeShapes Go.WideShapes

theorem own : ownKnob Try.prog.godebug = none := by kernel_rfl
theorem laidOut : laidOutB Try.prog = true := by kernel_rfl
theorem spot_none {w : World} {a : Addr} {v : Value} (h : w.cell? a = some v) : ∃ b off, a = ⟨b, off, none⟩ ∧ b < w.heap.size := by
  obtain ⟨b, off, spot⟩ := a
  obtain rfl : spot = none := World.cell?_spot h
  exact ⟨b, off, rfl, World.block_lt_of_cell? w _ h⟩

section
variable {H : Type} {enc : TypeId × Value → H} {w : World}

/-- The address of a row whose first element is there. -/
theorem row_addr {a : Addr} {n k : Nat} {cs' : List Value} (hk : 0 < n) (h1 : w.cells? 0 (a.add (0 * k)) n = some cs') : ∃ b off, a = ⟨b, off, none⟩ ∧ b < w.heap.size := by
  obtain ⟨_, hlen, hcell⟩ := World.cells?_some h1
  have e := hcell 0 hk
  obtain ⟨v, hv⟩ : ∃ v, cs'[0]? = some v := ⟨_, List.getElem?_eq_getElem (by omega)⟩
  rw [hv, add_add, Nat.zero_mul] at e
  refine spot_none (v := v) ?_
  simpa [Addr.add] using e
theorem offs23 : (Try.prog.underlying 23).map (fun d => match d with | .struct fs => fs.toList.map (fun f => (f.type, f.offset)) | _ => []) = some [(9, 0), (9, 1)] := by kernel_rfl

/-- A slice of spans as it came in. -/
theorem spans_open {fuel : Nat} {A : Option Addr} {n cap : Nat} {x : DataW H × List MemPlace} (h : DataW.trod enc Try.prog w 0 (fun _ => true) true fuel 26 [.slice A n cap] = some x)
    (hsz : ∀ k ∈ x.1.weights Try.prog 26, k ≤ reachBytes) : ∃ l : List Sp, l.length = n ∧ RowAt w A (spC l) ∧ n ≤ cap ∧ n * 32 ≤ reachBytes := by
  rcases open_slice Try.underlying26 h with ⟨hcs, _⟩ | ⟨a, len, c, m, f, D, Pl, hcs, _, hl, hm, hmm, hx, hel⟩
  · simp at hcs
    obtain ⟨rfl, rfl, rfl⟩ := hcs
    exact ⟨[], rfl, fun i y hy => by simp [spC] at hy, Nat.le_refl _, by omega⟩
  · simp at hcs
    obtain ⟨rfl, rfl, rfl⟩ := hcs
    simp only [if_true] at hmm
    have c23 : Try.prog.cellsOf 23 = 2 := by kernel_rfl
    rw [c23] at hel
    obtain ⟨fs, hfs⟩ : ∃ fs : Array Field, Try.prog.underlying 23 = some (.struct fs) := ⟨_, Try.underlying23⟩
    have hoffs := offs23
    rw [hfs] at hoffs
    have hfl : fs.toList.map (fun f => (f.type, f.offset)) = [(9, 0), (9, 1)] := by simpa using hoffs
    have fld : ∀ j t o, [(9, 0), (9, 1)][j]? = some ((t, o) : TypeId × Nat) → ∃ g : Field, fs[j]? = some g ∧ g.type = t ∧ g.offset = o := fun j t o hj => by
      rw [← hfl, List.getElem?_map] at hj
      obtain ⟨g, hg, he⟩ := Option.map_eq_some_iff.1 hj
      simp only [Prod.mk.injEq] at he
      exact ⟨g, by simpa using hg, he.1, he.2⟩
    obtain ⟨f0, hf0, t0, o0⟩ := fld 0 9 0 rfl
    obtain ⟨f1, hf1, t1, o1⟩ := fld 1 9 1 rfl
    have hsize : fs.size = 2 := by
      have := congrArg List.length hfl
      simpa using this
    have c9 : Try.prog.cellsOf 9 = 1 := by kernel_rfl
    have each : ∀ i, i < n → ∃ y : Sp, w.cell? (a.add (i * 2)) = some (.string (bs y.1)) ∧ w.cell? (a.add (i * 2 + 1)) = some (.string (bs y.2)) := by
      intro i hi
      obtain ⟨cs', h1, h2⟩ := hel i (by omega)
      obtain ⟨_, hlen, hcell⟩ := World.cells?_some h1
      obtain ⟨xs, k, _, _, _, hxl, hf⟩ := DataW.trod_struct hfs h2
      match xs, hxl.trans hsize, cs', hlen with
      | [y0, y1], _, [v0, v1], _ =>
        have g0 := hf 0 f0 hf0
        have g1 := hf 1 f1 hf1
        rw [t0, o0, c9] at g0
        rw [t1, o1, c9] at g1
        simp only [List.drop_zero, List.take_succ_cons, List.take_zero, List.drop_succ_cons, List.getElem?_cons_zero, List.getElem?_cons_succ] at g0 g1
        obtain ⟨p, hp, _, _⟩ := DataW.trod_string Try.underlying9 g0
        obtain ⟨q, hq, _, _⟩ := DataW.trod_string Try.underlying9 g1
        have e0 := hcell 0 (by omega)
        have e1 := hcell 1 (by omega)
        rw [add_add] at e0 e1
        simp only [List.getElem?_cons_zero, List.getElem?_cons_succ, Nat.add_zero] at e0 e1
        have hp' : v0 = .string p := by simpa using hp
        have hq' : v1 = .string q := by simpa using hq
        exact ⟨(bl p, bl q), by rw [bs_bl, ← hp']; exact e0, by rw [bs_bl, ← hq']; exact e1⟩
    obtain ⟨Y, hY⟩ := choose_lt each
    have b23 : Try.prog.bytesOf 23 = 32 := by kernel_rfl
    have hw : n * 32 ≤ reachBytes := by
      refine Nat.le_trans ?_ (hsz _ (by
        rw [hx]
        simp only [DataW.weights, Try.underlying26, List.mem_cons]
        exact .inl rfl))
      rw [b23, List.length_map, List.length_range]
      exact Nat.mul_le_mul (by omega) (Nat.le_refl _)
    refine ⟨(List.range n).map Y, by simp, fun j v hj => ?_, hl, hw⟩
    have hjl : j < n * 2 := by have := (List.getElem?_eq_some_iff.1 hj).1; rw [spC_length] at this; simpa using this
    obtain ⟨cs0, h0, _⟩ := hel 0 (by omega)
    obtain ⟨b, off, rfl, hb⟩ := row_addr (by omega) h0
    have hi : j / 2 < n := by omega
    obtain ⟨e0, e1⟩ := hY (j / 2) hi
    rw [row_add] at e0 e1
    have hat := spC_at ((List.range n).map Y) (j / 2) (Y (j / 2)) (by simp [hi])
    refine ⟨b, off, rfl, hb, ?_⟩
    by_cases hp : j % 2 = 0
    · have ej : j / 2 * 2 = j := by omega
      rw [ej] at e0 hat
      rw [hat.1] at hj
      injection hj with hj
      rw [← hj]; exact e0
    · have ej : j / 2 * 2 + 1 = j := by omega
      rw [ej] at e1 hat
      rw [hat.2] at hj
      injection hj with hj
      rw [← hj]; exact e1
/-- A span by value as it came in. -/
theorem span_open {base : Nat} {v : Value} {d : DataW H} {p : List MemPlace} (hv : Value.okWide Try.prog w .any base 23 v) (h : DataW.Trod enc Try.prog w 0 (fun _ => true) true 23 v d p) :
    ∃ s : Sp, v = spV s ∧ p = [] ∧ ∀ (w' : World) (sp : Nat → Bool), DataW.Trod enc Try.prog w' 0 sp true 23 v d [] := by
  obtain ⟨v0, v1, y0, y1, n, rfl, rfl, rfl, g0, g1⟩ := Go.Joins.open_agg2 Try.underlying23 (by kernel_rfl) (by kernel_rfl) hv h
  obtain ⟨a, ha, ha2, ha3⟩ := DataW.trod_string Try.underlying9 g0
  obtain ⟨b, hb, hb2, hb3⟩ := DataW.trod_string Try.underlying9 g1
  have ha' : v0 = .string a := by simpa using ha
  have hb' : v1 = .string b := by simpa using hb
  subst ha' hb' ha2 hb2
  refine ⟨(bl a, bl b), by unfold spV; rw [bs_bl, bs_bl], rfl, fun w' sp => ?_⟩
  exact Go.Joins.shut_agg2 (y0 := (.lit (.string a.data.toList), [])) (y1 := (.lit (.string b.data.toList), [])) Try.underlying23 (by kernel_rfl) (by kernel_rfl)
    ⟨1, by simp [DataW.trod, Try.underlying9, ha3]⟩ ⟨1, by simp [DataW.trod, Try.underlying9, hb3]⟩
end
end Go.Proofs.Ytfjgikcbngfhmaa
