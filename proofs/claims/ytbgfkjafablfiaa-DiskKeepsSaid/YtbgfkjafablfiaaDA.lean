/-
  The program's disk in memory: a struct, a map of names to files, each file a struct and its bytes. What becomes of it when one file turns, comes or goes.
-/
import Derived.Test.YtbgfkjafablfiaaTV
import Derived.Test.YtbgfkjafablfiaaRC
import Derived.Lib.AppendStr
namespace Go.Proofs.Ytbgfkjafablfiaa
open Go.RowKit Go.Maps

/-! Two files, pure. -/
theorem bs_data (l : List UInt8) : (bs l).data.toList = l := by rw [bs_eq]
theorem size_used : ∀ {l : List Fl} {i : Nat} {f : Fl}, l[i]? = some f → f.2.1.length + f.2.2.length ≤ usedL l
  | [], i, f, h => by simp at h
  | g :: l, 0, f, h => by
    obtain rfl : g = f := by simpa using h
    simp only [usedL, sizeF]; omega
  | g :: l, i + 1, f, h => by
    have := size_used (l := l) (i := i) (by simpa using h)
    simp only [usedL]; omega
theorem used_modify : ∀ {l : List Fl} {i : Nat} {f f' : Fl}, l[i]? = some f → usedL (l.modify i fun _ => f') + sizeF f = usedL l + sizeF f'
  | [], i, f, f', h => by simp at h
  | g :: l, 0, f, f', h => by
    obtain rfl : g = f := by simpa using h
    simp only [List.modify_zero_cons, usedL]; omega
  | g :: l, i + 1, f, f', h => by
    have := used_modify (l := l) (i := i) (f' := f') (by simpa using h)
    simp only [List.modify_succ_cons, usedL]; omega
theorem used_cut : ∀ {l : List Fl} {i : Nat} {f : Fl}, l[i]? = some f → usedL (l.take i ++ l.drop (i + 1)) + sizeF f = usedL l
  | [], i, f, h => by simp at h
  | g :: l, 0, f, h => by
    obtain rfl : g = f := by simpa using h
    simp [usedL]; omega
  | g :: l, i + 1, f, h => by
    have := used_cut (l := l) (i := i) (by simpa using h)
    simp only [List.take_succ_cons, List.cons_append, List.drop_succ_cons, usedL]; omega
theorem modify_const {l : List Fl} {i : Nat} {f : Fl} (g : Fl → Fl) (h : l[i]? = some f) : l.modify i g = l.modify i fun _ => g f := by
  apply List.ext_getElem?
  intro j
  rw [List.getElem?_modify, List.getElem?_modify]
  by_cases hj : i = j
  · subst hj; simp [h]
  · simp [hj]
theorem names_modify {l : List Fl} {i : Nat} {f f' : Fl} (h : l[i]? = some f) (hn : f'.1 = f.1) : (l.modify i fun _ => f').map (·.1) = l.map (·.1) := by
  apply List.ext_getElem?
  intro j
  rw [List.getElem?_map, List.getElem?_map, List.getElem?_modify]
  by_cases hj : i = j
  · subst hj; simp [h, hn]
  · cases l[j]? <;> simp [hj]
theorem rise_names {l m : List Fl} (h : m.map (·.1) = l.map (·.1)) (hr : RiseF l) : RiseF m := by
  have h6 : (l.map (·.1)).Pairwise (fun a b => ltL a b = true) := List.pairwise_map.2 hr
  rw [← h] at h6
  exact List.pairwise_map.1 h6
theorem mem_modify {l : List Fl} {i : Nat} {f' q : Fl} (hq : q ∈ l.modify i fun _ => f') : q = f' ∨ ∃ j, j ≠ i ∧ l[j]? = some q := by
  obtain ⟨j, hj⟩ := List.getElem?_of_mem hq
  rw [List.getElem?_modify] at hj
  by_cases hji : i = j
  · subst hji
    cases h : l[i]? with
    | none => rw [h] at hj; simp at hj
    | some x => rw [h] at hj; simp at hj; exact .inl hj.symm
  · refine .inr ⟨j, fun e => hji e.symm, ?_⟩
    cases h : l[j]? with
    | none => rw [h] at hj; simp at hj
    | some x => rw [h] at hj; simpa [hji] using hj
/-- In order, two places have two names. -/
theorem rise_inj {l : List Fl} (hr : RiseF l) {i j : Nat} {f q : Fl} (hi : l[i]? = some f) (hj : l[j]? = some q) (hn : f.1 = q.1) : i = j := by
  rcases Nat.lt_trichotomy i j with h | h | h
  · obtain ⟨h1, rfl⟩ := List.getElem?_eq_some_iff.1 hi
    obtain ⟨h2, rfl⟩ := List.getElem?_eq_some_iff.1 hj
    have := List.pairwise_iff_getElem.1 hr i j h1 h2 h
    rw [hn, ltL_irrefl] at this; cases this
  · exact h
  · obtain ⟨h1, rfl⟩ := List.getElem?_eq_some_iff.1 hi
    obtain ⟨h2, rfl⟩ := List.getElem?_eq_some_iff.1 hj
    have := List.pairwise_iff_getElem.1 hr j i h2 h1 h
    rw [hn, ltL_irrefl] at this; cases this
theorem rise_mem {l : List Fl} (hr : RiseF l) {f q : Fl} (hf : f ∈ l) (hq : q ∈ l) (hn : f.1 = q.1) : f = q := by
  obtain ⟨i, hi⟩ := List.getElem?_of_mem hf
  obtain ⟨j, hj⟩ := List.getElem?_of_mem hq
  obtain rfl := rise_inj hr hi hj hn
  rw [hi] at hj; exact Option.some.inj hj
theorem atN_of {l : List Fl} (hr : RiseF l) {i : Nat} {f : Fl} (hf : l[i]? = some f) : atN f.1 l = some i := by
  cases h : atN f.1 l with
  | none => exact absurd rfl (atN_none h f (List.mem_of_getElem? hf))
  | some j =>
    obtain ⟨q, hq, hn⟩ := atN_some h
    rw [rise_inj hr hf hq hn.symm]

/-! Elements of the map. -/
/-- How a pointer to a file reads: its block. -/
def ptrR {H : Type} : Value → Option (DataW H × List MemPlace)
  | .pointer (some ⟨g, 0, none⟩) => some (.lit (.int .i64 g), [])
  | .pointer none => some (.nil, [])
  | _ => none
def elP (gm : List UInt8 → Nat) (f : Fl) : DataW Unit := .lit (.int .i64 (gm f.1))
theorem ptr_inv {v : Value} {g : Nat} {ps : List MemPlace} (h : ptrR (H := Unit) v = some (.lit (.int .i64 g), ps)) : v = .pointer (some ⟨g, 0, none⟩) := by
  unfold ptrR at h
  split at h
  · rename_i g'
    simp only [Option.some.injEq, Prod.mk.injEq, DataW.lit.injEq, Lit.int.injEq, true_and] at h
    have : g' = g := by omega
    rw [this]
  · simp at h
  · cases h
theorem ptr_nil {v : Value} {ps : List MemPlace} (h : ptrR (H := Unit) v = some (.nil, ps)) : v = .pointer none := by
  unfold ptrR at h
  split at h
  · simp at h
  · rfl
  · cases h
theorem law9 : Keyed Try.prog 9 := string_keyed Try.underlying9
theorem zero70 (w : World) : (zeroValue 70).run Try.prog w = .ok (.pointer none) w := by kernel_rfl
theorem key_bs {l : List UInt8} (h : l.length ≤ 9223372036854775807) : keyOf Try.prog 9 (.string (bs l)) = some (.string l) := by
  rw [WideMaps.keyOf_string_mk Try.underlying9 (by rw [bs_size]; unfold maxLen; omega), bs_data]
theorem only_grown {w w' : World} {b : Nat} (h : w.grownBy w' (some b)) : Only (fun k => k = b) w w' := ⟨h.os, h.tape, h.output, h.size, fun i hi hn => h.block i hi (by intro e; injection e with e; exact hn e)⟩
theorem ownsMap_tight {w : World} {P : Program} {k : TypeId} {R : Value → Option (DataW Unit × List MemPlace)} {b n : Nat} {D : DataW Unit} (h : w.ownsMap P k R b n D) : w.ownsMap P k R b (Maps.size D) D := by
  obtain ⟨es, clock, hb, F, hs, rfl⟩ := h
  refine ⟨es, clock, hb, F, ?_, rfl⟩
  simp [Maps.size, length_sorted]
theorem mapF_names {gm : List UInt8 → Nat} {l m : List Fl} (h : m.map (·.1) = l.map (·.1)) : mapF (elP gm) m = mapF (elP gm) l := by
  have e : ∀ l : List Fl, mapF (elP gm) l = .map ((l.map (·.1)).map fun n => (.string n, (.lit (.int .i64 (gm n)) : DataW Unit))) := fun l => by
    unfold mapF elP; rw [List.map_map]; rfl
  rw [e, e, h]

/-! The disk in memory. -/
structure FilM (w : World) (g : Nat) (v : Value) (f : Fl) : Prop where
  box : Holds w g 74 [v, .int .i64 (f.2.1.length : Int)]
  own : w.ownsRow 0 5 1 v (sizeF f) (byC (f.2.1 ++ f.2.2))
def mapM (w : World) (mb : Option Nat) (gm : List UInt8 → Nat) (l : List Fl) : Prop := match mb with
  | none => l = []
  | some b => w.ownsMap Try.prog 9 (ptrR (H := Unit)) b l.length (mapF (elP gm) l)
def boxC (mb : Option Nat) (s : St) : List Value := [.map mb, .int .i64 (usedL s.files : Nat), .int .i64 s.room, .bool s.off, .bool (decide (0 ≤ s.fuse)), .int .i64 (max s.fuse 0)]
structure DskM (w : World) (r : Nat) (mb : Option Nat) (gm : List UInt8 → Nat) (vm : List UInt8 → Value) (s : St) : Prop where
  box : Holds w r 58 (boxC mb s)
  map : mapM w mb gm s.files
  fil : ∀ f ∈ s.files, FilM w (gm f.1) (vm f.1) f
  inj : ∀ f ∈ s.files, ∀ q ∈ s.files, gm f.1 = gm q.1 → f.1 = q.1
  injv : ∀ f ∈ s.files, ∀ q ∈ s.files, ∀ k, (vm f.1).ownBlock = some k → (vm q.1).ownBlock = some k → f.1 = q.1
  rise : RiseF s.files
  short : ∀ f ∈ s.files, f.1.length ≤ 9223372036854775807
def FootM (r : Nat) (mb : Option Nat) (gm : List UInt8 → Nat) (vm : List UInt8 → Value) (l : List Fl) (k : Nat) : Prop :=
  k = r ∨ mb = some k ∨ ∃ f ∈ l, k = gm f.1 ∨ (vm f.1).ownBlock = some k

section
variable {w w' : World} {r : Nat} {mb : Option Nat} {gm : List UInt8 → Nat} {vm : List UInt8 → Value} {s : St}
theorem own_cells {B : Nat} {e : TypeId} {k : Nat} {v : Value} {n : Nat} {cs : List Value} (h : w.ownsRow B e k v n cs) {g : Nat} (hg : v.ownBlock = some g) : ∃ cur, w.heap[g]? = some (.cells cur e (0, 0)) := by
  rcases h.2 with ⟨rfl, _⟩ | ⟨g', cap, cur, rfl, _, hh, _⟩
  · simp [Value.ownBlock] at hg
  · simp [Value.ownBlock] at hg
    subst hg
    exact ⟨cur, hh⟩
theorem FilM.lt {g : Nat} {v : Value} {f : Fl} (h : FilM w g v f) : g < w.heap.size := h.box.lt
theorem FilM.ltv {g : Nat} {v : Value} {f : Fl} (h : FilM w g v f) {k : Nat} (hk : v.ownBlock = some k) : k < w.heap.size := (h.own.lt k hk).2
theorem FilM.only {F : Nat → Prop} {g : Nat} {v : Value} {f : Fl} (h : FilM w g v f) (ho : Only F w w') (h1 : ¬ F g) (h2 : ∀ k, v.ownBlock = some k → ¬ F k) : FilM w' g v f :=
  ⟨(ho.block g h.lt h1).trans h.box, own_only h.own ho fun j hj e => h2 j e hj⟩
theorem mapM.lt {l : List Fl} (h : mapM w mb gm l) {b : Nat} (hb : mb = some b) : b < w.heap.size := by subst hb; exact World.ownsMap.lt h
theorem mapM.only {F : Nat → Prop} {l : List Fl} (h : mapM w mb gm l) (ho : Only F w w') (h1 : ∀ b, mb = some b → ¬ F b) : mapM w' mb gm l := by
  cases mb with
  | none => exact h
  | some b =>
    obtain ⟨es, clock, hb, q⟩ := h
    exact ⟨es, clock, (ho.block b (Array.getElem?_eq_some_iff.1 hb).1 (h1 b rfl)).trans hb, q⟩
theorem mapM.obj {l : List Fl} (h : mapM w mb gm l) {b : Nat} (hb : mb = some b) : ∃ es clock, w.heap[b]? = some (.map es clock) := by
  subst hb
  obtain ⟨es, clock, hb, _⟩ := h
  exact ⟨es, clock, hb⟩
theorem DskM.lt (h : DskM w r mb gm vm s) {k : Nat} (hk : FootM r mb gm vm s.files k) : k < w.heap.size := by
  rcases hk with rfl | hk | ⟨f, hf, rfl | hk⟩
  · exact h.box.lt
  · exact h.map.lt hk
  · exact (h.fil f hf).lt
  · exact (h.fil f hf).ltv hk
theorem DskM.only {F : Nat → Prop} (h : DskM w r mb gm vm s) (ho : Only F w w') (hF : ∀ k, FootM r mb gm vm s.files k → ¬ F k) : DskM w' r mb gm vm s :=
  ⟨(ho.block r h.box.lt (hF r (.inl rfl))).trans h.box, h.map.only ho fun b hb => hF b (.inr (.inl hb)),
    fun f hf => (h.fil f hf).only ho (hF _ (.inr (.inr ⟨f, hf, .inl rfl⟩))) fun k hk => hF k (.inr (.inr ⟨f, hf, .inr hk⟩)), h.inj, h.injv, h.rise, h.short⟩
theorem DskM.below (h : DskM w r mb gm vm s) (hb : Below w.heap.size w w') : DskM w' r mb gm vm s :=
  h.only (Only.of_below (F := fun _ => False) hb fun _ hi => .inr hi) fun _ _ => id
/-- Blocks of unlike kinds are unlike. -/
theorem DskM.r_ne_g (h : DskM w r mb gm vm s) {f : Fl} (hf : f ∈ s.files) : r ≠ gm f.1 := fun e => by
  have h1 := h.box; have h2 := (h.fil f hf).box
  unfold Holds at h1 h2; rw [e, h2] at h1; simp at h1
theorem DskM.r_ne_v (h : DskM w r mb gm vm s) {f : Fl} (hf : f ∈ s.files) {k : Nat} (hk : (vm f.1).ownBlock = some k) : r ≠ k := fun e => by
  obtain ⟨cur, h2⟩ := own_cells (h.fil f hf).own hk
  have h1 := h.box
  unfold Holds at h1; rw [e, h2] at h1; simp at h1
theorem DskM.g_ne_v (h : DskM w r mb gm vm s) {f q : Fl} (hf : f ∈ s.files) (hq : q ∈ s.files) {k : Nat} (hk : (vm q.1).ownBlock = some k) : gm f.1 ≠ k := fun e => by
  obtain ⟨cur, h2⟩ := own_cells (h.fil q hq).own hk
  have h1 := (h.fil f hf).box
  unfold Holds at h1; rw [e, h2] at h1; simp at h1
theorem DskM.m_ne_r (h : DskM w r mb gm vm s) {b : Nat} (hb : mb = some b) : b ≠ r := fun e => by
  obtain ⟨es, c, h2⟩ := h.map.obj hb
  have h1 := h.box
  unfold Holds at h1; rw [← e, h2] at h1; simp at h1
theorem DskM.m_ne_g (h : DskM w r mb gm vm s) {b : Nat} (hb : mb = some b) {f : Fl} (hf : f ∈ s.files) : b ≠ gm f.1 := fun e => by
  obtain ⟨es, c, h2⟩ := h.map.obj hb
  have h1 := (h.fil f hf).box
  unfold Holds at h1; rw [← e, h2] at h1; simp at h1
theorem DskM.m_ne_v (h : DskM w r mb gm vm s) {b : Nat} (hb : mb = some b) {f : Fl} (hf : f ∈ s.files) {k : Nat} (hk : (vm f.1).ownBlock = some k) : b ≠ k := fun e => by
  obtain ⟨cur, h2⟩ := own_cells (h.fil f hf).own hk
  obtain ⟨es, c, h3⟩ := h.map.obj hb
  rw [e, h2] at h3; simp at h3
end

def upd (vm : List UInt8 → Value) (nm : List UInt8) (v : Value) : List UInt8 → Value := fun x => if x = nm then v else vm x
def updN (gm : List UInt8 → Nat) (nm : List UInt8) (v : Nat) : List UInt8 → Nat := fun x => if x = nm then v else gm x
theorem upd_same (vm : List UInt8 → Value) (nm : List UInt8) (v : Value) : upd vm nm v nm = v := by simp [upd]
theorem upd_other (vm : List UInt8 → Value) {nm x : List UInt8} (v : Value) (h : x ≠ nm) : upd vm nm v x = vm x := by simp [upd, h]
theorem updN_same (vm : List UInt8 → Nat) (nm : List UInt8) (v : Nat) : updN vm nm v nm = v := by simp [updN]
theorem updN_other (vm : List UInt8 → Nat) {nm x : List UInt8} (v : Nat) (h : x ≠ nm) : updN vm nm v x = vm x := by simp [updN, h]

/-- What a call leaves of the disk: blocks of F, and new ones. -/
def Got (w : World) (F : Nat → Prop) (r : Nat) (s' : St) (w' : World) : Prop :=
  ∃ mb' gm' vm', DskM w' r mb' gm' vm' s' ∧ Only F w w' ∧ ∀ k, FootM r mb' gm' vm' s'.files k → F k ∨ w.heap.size ≤ k

/-- One file has turned, and the box. -/
theorem DskM.turn {w w' : World} {r : Nat} {mb : Option Nat} {gm : List UInt8 → Nat} {vm : List UInt8 → Value} {s s' : St} {F : Nat → Prop} {i : Nat} {f f' : Fl} {v' : Value} (h : DskM w r mb gm vm s)
    (hf : s.files[i]? = some f) (hn : f'.1 = f.1) (hs : s'.files = s.files.modify i fun _ => f') (ho : Only F w w') (hF : ∀ k, F k → k = r ∨ k = gm f.1 ∨ (vm f.1).ownBlock = some k)
    (hbox : Holds w' r 58 (boxC mb s')) (hfil : FilM w' (gm f.1) v' f') (hv : ∀ k, v'.ownBlock = some k → (vm f.1).ownBlock = some k ∨ w.heap.size ≤ k) :
    DskM w' r mb gm (upd vm f.1 v') s' ∧ ∀ k, FootM r mb gm (upd vm f.1 v') s'.files k → FootM r mb gm vm s.files k ∨ w.heap.size ≤ k := by
  have hfm := List.mem_of_getElem? hf
  have hnm := names_modify hf hn
  rw [← hs] at hnm
  have hr := rise_names hnm h.rise
  have hmem : ∀ q ∈ s'.files, q = f' ∨ (q ∈ s.files ∧ q.1 ≠ f.1) := fun q hq => by
    rw [hs] at hq
    rcases mem_modify hq with e | ⟨j, hj, e⟩
    · exact .inl e
    · exact .inr ⟨List.mem_of_getElem? e, fun e2 => hj (rise_inj h.rise e hf e2)⟩
  have hfa : ∀ q ∈ s.files, q.1 ≠ f.1 → FilM w' (gm q.1) (vm q.1) q := fun q hq hne => (h.fil q hq).only ho
    (fun hk => by
      rcases hF _ hk with e | e | e
      · exact h.r_ne_g hq e.symm
      · exact hne (h.inj q hq f hfm e)
      · exact h.g_ne_v hq hfm e rfl)
    (fun k hk hk2 => by
      rcases hF _ hk2 with e | e | e
      · exact h.r_ne_v hq hk e.symm
      · exact h.g_ne_v hfm hq hk e.symm
      · exact hne (h.injv q hq f hfm k hk e))
  refine ⟨⟨hbox, ?_, ?_, ?_, ?_, hr, ?_⟩, ?_⟩
  · have hm := h.map.only ho fun b hb hk => by
      rcases hF _ hk with e | e | e
      · exact h.m_ne_r hb e
      · exact h.m_ne_g hb hfm e
      · exact h.m_ne_v hb hfm e rfl
    cases mb with
    | none =>
      have : s.files = [] := hm
      rw [this] at hfm; cases hfm
    | some b =>
      show World.ownsMap _ _ _ _ _ _ _
      rw [mapF_names hnm, show s'.files.length = s.files.length by rw [hs, List.length_modify]]
      exact hm
  · intro q hq
    rcases hmem q hq with rfl | ⟨hq1, hq2⟩
    · rw [hn, upd_same]; exact hfil
    · rw [upd_other _ _ hq2]; exact hfa q hq1 hq2
  · intro q hq p hp e
    have key : ∀ x ∈ s'.files, ∃ y ∈ s.files, y.1 = x.1 := fun x hx => by
      rcases hmem x hx with rfl | ⟨h1, _⟩
      · exact ⟨f, hfm, hn.symm⟩
      · exact ⟨x, h1, rfl⟩
    obtain ⟨q', hq', eq⟩ := key q hq
    obtain ⟨p', hp', ep⟩ := key p hp
    rw [← eq, ← ep] at e ⊢
    exact h.inj q' hq' p' hp' e
  · intro q hq p hp k hk1 hk2
    rcases hmem q hq with rfl | ⟨hq1, hq2⟩ <;> rcases hmem p hp with rfl | ⟨hp1, hp2⟩
    · rfl
    · exfalso
      rw [hn, upd_same] at hk1
      rw [upd_other _ _ hp2] at hk2
      rcases hv k hk1 with e | e
      · exact hp2 (h.injv p hp1 f hfm k hk2 e)
      · have := (h.fil p hp1).ltv hk2; omega
    · exfalso
      rw [hn, upd_same] at hk2
      rw [upd_other _ _ hq2] at hk1
      rcases hv k hk2 with e | e
      · exact hq2 (h.injv q hq1 f hfm k hk1 e)
      · have := (h.fil q hq1).ltv hk1; omega
    · rw [upd_other _ _ hq2] at hk1
      rw [upd_other _ _ hp2] at hk2
      exact h.injv q hq1 p hp1 k hk1 hk2
  · intro q hq
    rcases hmem q hq with rfl | ⟨hq1, _⟩
    · rw [hn]; exact h.short f hfm
    · exact h.short q hq1
  · intro k hk
    rcases hk with rfl | hk | ⟨q, hq, hk⟩
    · exact .inl (.inl rfl)
    · exact .inl (.inr (.inl hk))
    · rcases hmem q hq with rfl | ⟨hq1, hq2⟩
      · rw [hn, upd_same] at hk
        rcases hk with rfl | hk
        · exact .inl (.inr (.inr ⟨f, hfm, .inl rfl⟩))
        · rcases hv k hk with e | e
          · exact .inl (.inr (.inr ⟨f, hfm, .inr e⟩))
          · exact .inr e
      · rw [upd_other _ _ hq2] at hk
        exact .inl (.inr (.inr ⟨q, hq1, hk⟩))
/-- The box alone has turned. -/
theorem DskM.boxed {w w' : World} {r : Nat} {mb : Option Nat} {gm : List UInt8 → Nat} {vm : List UInt8 → Value} {s s' : St} (h : DskM w r mb gm vm s) (hs : s'.files = s.files) (ho : Only (fun k => k = r) w w') (hbox : Holds w' r 58 (boxC mb s')) :
    DskM w' r mb gm vm s' := by
  have hm := h.map.only ho fun b hb hk => h.m_ne_r hb hk
  refine ⟨hbox, by rw [hs]; exact hm, fun f hf => ?_, by rw [hs]; exact h.inj, by rw [hs]; exact h.injv, by rw [hs]; exact h.rise, by rw [hs]; exact h.short⟩
  rw [hs] at hf
  exact (h.fil f hf).only ho (fun e => h.r_ne_g hf e.symm) fun k hk e => h.r_ne_v hf hk e.symm
end Go.Proofs.Ytbgfkjafablfiaa
