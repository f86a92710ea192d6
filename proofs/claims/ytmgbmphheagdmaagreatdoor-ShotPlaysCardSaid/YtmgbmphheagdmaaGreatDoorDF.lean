/- Texts of one claim, joined: DA DB DC DD DE DF. -/
import Derived.Test.YtmgbmphheagdmaaGreatDoorPD
import Derived.Test.YtmgbmphheagdmaaGreatDoorRC
import Derived.Lib.AppendStr
/-
  The program's disk in memory: a struct, a map of names to files, each file a struct and its bytes. What becomes of it when one file turns, comes or goes.
-/
namespace Go.Proofs.YtmgbmphheagdmaaGreatDoor
open Go.RowKit Go.Maps

/-! Two files, pure. -/
theorem bs_data (l : List UInt8) : (bs l).data.toList = l := by rw [bs_eq]
theorem size_used : ∀ {l : List Fl} {i : Nat} {f : Fl}, l[i]? = some f → f.2.1.length + f.2.2.length ≤ usedL l
  | [], i, f, h => by simp at h
  | g :: l, 0, f, h => by
    obtain rfl : g = f := by simpa using h
    simp only [usedL, sizeF]; omega
  | g :: l, i + 1, f, h => by
    have := size_used (l := l) (i := i) (by simpa using h)
    simp only [usedL]; omega
theorem used_modify : ∀ {l : List Fl} {i : Nat} {f f' : Fl}, l[i]? = some f → usedL (l.modify i fun _ => f') + sizeF f = usedL l + sizeF f'
  | [], i, f, f', h => by simp at h
  | g :: l, 0, f, f', h => by
    obtain rfl : g = f := by simpa using h
    simp only [List.modify_zero_cons, usedL]; omega
  | g :: l, i + 1, f, f', h => by
    have := used_modify (l := l) (i := i) (f' := f') (by simpa using h)
    simp only [List.modify_succ_cons, usedL]; omega
theorem used_cut : ∀ {l : List Fl} {i : Nat} {f : Fl}, l[i]? = some f → usedL (l.take i ++ l.drop (i + 1)) + sizeF f = usedL l
  | [], i, f, h => by simp at h
  | g :: l, 0, f, h => by
    obtain rfl : g = f := by simpa using h
    simp [usedL]; omega
  | g :: l, i + 1, f, h => by
    have := used_cut (l := l) (i := i) (by simpa using h)
    simp only [List.take_succ_cons, List.cons_append, List.drop_succ_cons, usedL]; omega
theorem modify_const {l : List Fl} {i : Nat} {f : Fl} (g : Fl → Fl) (h : l[i]? = some f) : l.modify i g = l.modify i fun _ => g f := by
  apply List.ext_getElem?
  intro j
  rw [List.getElem?_modify, List.getElem?_modify]
  by_cases hj : i = j
  · subst hj; simp [h]
  · simp [hj]
theorem names_modify {l : List Fl} {i : Nat} {f f' : Fl} (h : l[i]? = some f) (hn : f'.1 = f.1) : (l.modify i fun _ => f').map (·.1) = l.map (·.1) := by
  apply List.ext_getElem?
  intro j
  rw [List.getElem?_map, List.getElem?_map, List.getElem?_modify]
  by_cases hj : i = j
  · subst hj; simp [h, hn]
  · cases l[j]? <;> simp [hj]
theorem rise_names {l m : List Fl} (h : m.map (·.1) = l.map (·.1)) (hr : RiseF l) : RiseF m := by
  have h6 : (l.map (·.1)).Pairwise (fun a b => ltL a b = true) := List.pairwise_map.2 hr
  rw [← h] at h6
  exact List.pairwise_map.1 h6
theorem mem_modify {l : List Fl} {i : Nat} {f' q : Fl} (hq : q ∈ l.modify i fun _ => f') : q = f' ∨ ∃ j, j ≠ i ∧ l[j]? = some q := by
  obtain ⟨j, hj⟩ := List.getElem?_of_mem hq
  rw [List.getElem?_modify] at hj
  by_cases hji : i = j
  · subst hji
    cases h : l[i]? with
    | none => rw [h] at hj; simp at hj
    | some x => rw [h] at hj; simp at hj; exact .inl hj.symm
  · refine .inr ⟨j, fun e => hji e.symm, ?_⟩
    cases h : l[j]? with
    | none => rw [h] at hj; simp at hj
    | some x => rw [h] at hj; simpa [hji] using hj
/-- In order, two places have two names. -/
theorem rise_inj {l : List Fl} (hr : RiseF l) {i j : Nat} {f q : Fl} (hi : l[i]? = some f) (hj : l[j]? = some q) (hn : f.1 = q.1) : i = j := by
  rcases Nat.lt_trichotomy i j with h | h | h
  · obtain ⟨h1, rfl⟩ := List.getElem?_eq_some_iff.1 hi
    obtain ⟨h2, rfl⟩ := List.getElem?_eq_some_iff.1 hj
    have := List.pairwise_iff_getElem.1 hr i j h1 h2 h
    rw [hn, ltL_irrefl] at this; cases this
  · exact h
  · obtain ⟨h1, rfl⟩ := List.getElem?_eq_some_iff.1 hi
    obtain ⟨h2, rfl⟩ := List.getElem?_eq_some_iff.1 hj
    have := List.pairwise_iff_getElem.1 hr j i h2 h1 h
    rw [hn, ltL_irrefl] at this; cases this
theorem rise_mem {l : List Fl} (hr : RiseF l) {f q : Fl} (hf : f ∈ l) (hq : q ∈ l) (hn : f.1 = q.1) : f = q := by
  obtain ⟨i, hi⟩ := List.getElem?_of_mem hf
  obtain ⟨j, hj⟩ := List.getElem?_of_mem hq
  obtain rfl := rise_inj hr hi hj hn
  rw [hi] at hj; exact Option.some.inj hj
theorem atN_of {l : List Fl} (hr : RiseF l) {i : Nat} {f : Fl} (hf : l[i]? = some f) : atN f.1 l = some i := by
  cases h : atN f.1 l with
  | none => exact absurd rfl (atN_none h f (List.mem_of_getElem? hf))
  | some j =>
    obtain ⟨q, hq, hn⟩ := atN_some h
    rw [rise_inj hr hf hq hn.symm]

/-! Elements of the map. -/
/-- How a pointer to a file reads: its block. -/
def ptrR {H : Type} : Value → Option (DataW H × List MemPlace)
  | .pointer (some ⟨g, 0, none⟩) => some (.lit (.int .i64 g), [])
  | .pointer none => some (.nil, [])
  | _ => none
def elP (gm : List UInt8 → Nat) (f : Fl) : DataW Unit := .lit (.int .i64 (gm f.1))
theorem ptr_inv {v : Value} {g : Nat} {ps : List MemPlace} (h : ptrR (H := Unit) v = some (.lit (.int .i64 g), ps)) : v = .pointer (some ⟨g, 0, none⟩) := by
  unfold ptrR at h
  split at h
  · rename_i g'
    simp only [Option.some.injEq, Prod.mk.injEq, DataW.lit.injEq, Lit.int.injEq, true_and] at h
    have : g' = g := by omega
    rw [this]
  · simp at h
  · cases h
theorem ptr_nil {v : Value} {ps : List MemPlace} (h : ptrR (H := Unit) v = some (.nil, ps)) : v = .pointer none := by
  unfold ptrR at h
  split at h
  · simp at h
  · rfl
  · cases h
theorem law9 : Keyed Tryz.prog 9 := string_keyed Tryz.underlying9
theorem zero70 (w : World) : (zeroValue 82).run Tryz.prog w = .ok (.pointer none) w := by kernel_rfl
theorem key_bs {l : List UInt8} (h : l.length ≤ 9223372036854775807) : keyOf Tryz.prog 9 (.string (bs l)) = some (.string l) := by
  rw [WideMaps.keyOf_string_mk Tryz.underlying9 (by rw [bs_size]; unfold maxLen; omega), bs_data]
theorem only_grown {w w' : World} {b : Nat} (h : w.grownBy w' (some b)) : Only (fun k => k = b) w w' := ⟨h.os, h.tape, h.output, h.size, fun i hi hn => h.block i hi (by intro e; injection e with e; exact hn e)⟩
theorem ownsMap_tight {w : World} {P : Program} {k : TypeId} {R : Value → Option (DataW Unit × List MemPlace)} {b n : Nat} {D : DataW Unit} (h : w.ownsMap P k R b n D) : w.ownsMap P k R b (Maps.size D) D := by
  obtain ⟨es, clock, hb, F, hs, rfl⟩ := h
  refine ⟨es, clock, hb, F, ?_, rfl⟩
  simp [Maps.size, length_sorted]
theorem mapF_names {gm : List UInt8 → Nat} {l m : List Fl} (h : m.map (·.1) = l.map (·.1)) : mapF (elP gm) m = mapF (elP gm) l := by
  have e : ∀ l : List Fl, mapF (elP gm) l = .map ((l.map (·.1)).map fun n => (.string n, (.lit (.int .i64 (gm n)) : DataW Unit))) := fun l => by
    unfold mapF elP; rw [List.map_map]; rfl
  rw [e, e, h]

/-! The disk in memory. -/
structure FilM (w : World) (g : Nat) (v : Value) (f : Fl) : Prop where
  box : Holds w g 84 [v, .int .i64 (f.2.1.length : Int)]
  own : w.ownsRow 0 5 1 v (sizeF f) (byC (f.2.1 ++ f.2.2))
def mapM (w : World) (mb : Option Nat) (gm : List UInt8 → Nat) (l : List Fl) : Prop := match mb with
  | none => l = []
  | some b => w.ownsMap Tryz.prog 9 (ptrR (H := Unit)) b l.length (mapF (elP gm) l)
def boxC (mb : Option Nat) (s : St) : List Value := [.map mb, .int .i64 (usedL s.files : Nat), .int .i64 s.room, .bool s.off, .bool (decide (0 ≤ s.fuse)), .int .i64 (max s.fuse 0)]
structure DskM (w : World) (r : Nat) (mb : Option Nat) (gm : List UInt8 → Nat) (vm : List UInt8 → Value) (s : St) : Prop where
  box : Holds w r 70 (boxC mb s)
  map : mapM w mb gm s.files
  fil : ∀ f ∈ s.files, FilM w (gm f.1) (vm f.1) f
  inj : ∀ f ∈ s.files, ∀ q ∈ s.files, gm f.1 = gm q.1 → f.1 = q.1
  injv : ∀ f ∈ s.files, ∀ q ∈ s.files, ∀ k, (vm f.1).ownBlock = some k → (vm q.1).ownBlock = some k → f.1 = q.1
  rise : RiseF s.files
  short : ∀ f ∈ s.files, f.1.length ≤ 9223372036854775807
def FootM (r : Nat) (mb : Option Nat) (gm : List UInt8 → Nat) (vm : List UInt8 → Value) (l : List Fl) (k : Nat) : Prop :=
  k = r ∨ mb = some k ∨ ∃ f ∈ l, k = gm f.1 ∨ (vm f.1).ownBlock = some k

section
variable {w w' : World} {r : Nat} {mb : Option Nat} {gm : List UInt8 → Nat} {vm : List UInt8 → Value} {s : St}
theorem own_cells {B : Nat} {e : TypeId} {k : Nat} {v : Value} {n : Nat} {cs : List Value} (h : w.ownsRow B e k v n cs) {g : Nat} (hg : v.ownBlock = some g) : ∃ cur, w.heap[g]? = some (.cells cur e (0, 0)) := by
  rcases h.2 with ⟨rfl, _⟩ | ⟨g', cap, cur, rfl, _, hh, _⟩
  · simp [Value.ownBlock] at hg
  · simp [Value.ownBlock] at hg
    subst hg
    exact ⟨cur, hh⟩
theorem FilM.lt {g : Nat} {v : Value} {f : Fl} (h : FilM w g v f) : g < w.heap.size := h.box.lt
theorem FilM.ltv {g : Nat} {v : Value} {f : Fl} (h : FilM w g v f) {k : Nat} (hk : v.ownBlock = some k) : k < w.heap.size := (h.own.lt k hk).2
theorem FilM.only {F : Nat → Prop} {g : Nat} {v : Value} {f : Fl} (h : FilM w g v f) (ho : Only F w w') (h1 : ¬ F g) (h2 : ∀ k, v.ownBlock = some k → ¬ F k) : FilM w' g v f :=
  ⟨(ho.block g h.lt h1).trans h.box, own_only h.own ho fun j hj e => h2 j e hj⟩
theorem mapM.lt {l : List Fl} (h : mapM w mb gm l) {b : Nat} (hb : mb = some b) : b < w.heap.size := by subst hb; exact World.ownsMap.lt h
theorem mapM.only {F : Nat → Prop} {l : List Fl} (h : mapM w mb gm l) (ho : Only F w w') (h1 : ∀ b, mb = some b → ¬ F b) : mapM w' mb gm l := by
  cases mb with
  | none => exact h
  | some b =>
    obtain ⟨es, clock, hb, q⟩ := h
    exact ⟨es, clock, (ho.block b (Array.getElem?_eq_some_iff.1 hb).1 (h1 b rfl)).trans hb, q⟩
theorem mapM.obj {l : List Fl} (h : mapM w mb gm l) {b : Nat} (hb : mb = some b) : ∃ es clock, w.heap[b]? = some (.map es clock) := by
  subst hb
  obtain ⟨es, clock, hb, _⟩ := h
  exact ⟨es, clock, hb⟩
theorem DskM.lt (h : DskM w r mb gm vm s) {k : Nat} (hk : FootM r mb gm vm s.files k) : k < w.heap.size := by
  rcases hk with rfl | hk | ⟨f, hf, rfl | hk⟩
  · exact h.box.lt
  · exact h.map.lt hk
  · exact (h.fil f hf).lt
  · exact (h.fil f hf).ltv hk
theorem DskM.only {F : Nat → Prop} (h : DskM w r mb gm vm s) (ho : Only F w w') (hF : ∀ k, FootM r mb gm vm s.files k → ¬ F k) : DskM w' r mb gm vm s :=
  ⟨(ho.block r h.box.lt (hF r (.inl rfl))).trans h.box, h.map.only ho fun b hb => hF b (.inr (.inl hb)),
    fun f hf => (h.fil f hf).only ho (hF _ (.inr (.inr ⟨f, hf, .inl rfl⟩))) fun k hk => hF k (.inr (.inr ⟨f, hf, .inr hk⟩)), h.inj, h.injv, h.rise, h.short⟩
theorem DskM.below (h : DskM w r mb gm vm s) (hb : Below w.heap.size w w') : DskM w' r mb gm vm s :=
  h.only (Only.of_below (F := fun _ => False) hb fun _ hi => .inr hi) fun _ _ => id
/-- Blocks of unlike kinds are unlike. -/
theorem DskM.r_ne_g (h : DskM w r mb gm vm s) {f : Fl} (hf : f ∈ s.files) : r ≠ gm f.1 := fun e => by
  have h1 := h.box; have h2 := (h.fil f hf).box
  unfold Holds at h1 h2; rw [e, h2] at h1; simp at h1
theorem DskM.r_ne_v (h : DskM w r mb gm vm s) {f : Fl} (hf : f ∈ s.files) {k : Nat} (hk : (vm f.1).ownBlock = some k) : r ≠ k := fun e => by
  obtain ⟨cur, h2⟩ := own_cells (h.fil f hf).own hk
  have h1 := h.box
  unfold Holds at h1; rw [e, h2] at h1; simp at h1
theorem DskM.g_ne_v (h : DskM w r mb gm vm s) {f q : Fl} (hf : f ∈ s.files) (hq : q ∈ s.files) {k : Nat} (hk : (vm q.1).ownBlock = some k) : gm f.1 ≠ k := fun e => by
  obtain ⟨cur, h2⟩ := own_cells (h.fil q hq).own hk
  have h1 := (h.fil f hf).box
  unfold Holds at h1; rw [e, h2] at h1; simp at h1
theorem DskM.m_ne_r (h : DskM w r mb gm vm s) {b : Nat} (hb : mb = some b) : b ≠ r := fun e => by
  obtain ⟨es, c, h2⟩ := h.map.obj hb
  have h1 := h.box
  unfold Holds at h1; rw [← e, h2] at h1; simp at h1
theorem DskM.m_ne_g (h : DskM w r mb gm vm s) {b : Nat} (hb : mb = some b) {f : Fl} (hf : f ∈ s.files) : b ≠ gm f.1 := fun e => by
  obtain ⟨es, c, h2⟩ := h.map.obj hb
  have h1 := (h.fil f hf).box
  unfold Holds at h1; rw [← e, h2] at h1; simp at h1
theorem DskM.m_ne_v (h : DskM w r mb gm vm s) {b : Nat} (hb : mb = some b) {f : Fl} (hf : f ∈ s.files) {k : Nat} (hk : (vm f.1).ownBlock = some k) : b ≠ k := fun e => by
  obtain ⟨cur, h2⟩ := own_cells (h.fil f hf).own hk
  obtain ⟨es, c, h3⟩ := h.map.obj hb
  rw [e, h2] at h3; simp at h3
end

def upd (vm : List UInt8 → Value) (nm : List UInt8) (v : Value) : List UInt8 → Value := fun x => if x = nm then v else vm x
def updN (gm : List UInt8 → Nat) (nm : List UInt8) (v : Nat) : List UInt8 → Nat := fun x => if x = nm then v else gm x
theorem upd_same (vm : List UInt8 → Value) (nm : List UInt8) (v : Value) : upd vm nm v nm = v := by simp [upd]
theorem upd_other (vm : List UInt8 → Value) {nm x : List UInt8} (v : Value) (h : x ≠ nm) : upd vm nm v x = vm x := by simp [upd, h]
theorem updN_same (vm : List UInt8 → Nat) (nm : List UInt8) (v : Nat) : updN vm nm v nm = v := by simp [updN]
theorem updN_other (vm : List UInt8 → Nat) {nm x : List UInt8} (v : Nat) (h : x ≠ nm) : updN vm nm v x = vm x := by simp [updN, h]

/-- What a call leaves of the disk: blocks of F, and new ones. -/
def Got (w : World) (F : Nat → Prop) (r : Nat) (s' : St) (w' : World) : Prop :=
  ∃ mb' gm' vm', DskM w' r mb' gm' vm' s' ∧ Only F w w' ∧ ∀ k, FootM r mb' gm' vm' s'.files k → F k ∨ w.heap.size ≤ k

/-- One file has turned, and the box. -/
theorem DskM.turn {w w' : World} {r : Nat} {mb : Option Nat} {gm : List UInt8 → Nat} {vm : List UInt8 → Value} {s s' : St} {F : Nat → Prop} {i : Nat} {f f' : Fl} {v' : Value} (h : DskM w r mb gm vm s)
    (hf : s.files[i]? = some f) (hn : f'.1 = f.1) (hs : s'.files = s.files.modify i fun _ => f') (ho : Only F w w') (hF : ∀ k, F k → k = r ∨ k = gm f.1 ∨ (vm f.1).ownBlock = some k)
    (hbox : Holds w' r 70 (boxC mb s')) (hfil : FilM w' (gm f.1) v' f') (hv : ∀ k, v'.ownBlock = some k → (vm f.1).ownBlock = some k ∨ w.heap.size ≤ k) :
    DskM w' r mb gm (upd vm f.1 v') s' ∧ ∀ k, FootM r mb gm (upd vm f.1 v') s'.files k → FootM r mb gm vm s.files k ∨ w.heap.size ≤ k := by
  have hfm := List.mem_of_getElem? hf
  have hnm := names_modify hf hn
  rw [← hs] at hnm
  have hr := rise_names hnm h.rise
  have hmem : ∀ q ∈ s'.files, q = f' ∨ (q ∈ s.files ∧ q.1 ≠ f.1) := fun q hq => by
    rw [hs] at hq
    rcases mem_modify hq with e | ⟨j, hj, e⟩
    · exact .inl e
    · exact .inr ⟨List.mem_of_getElem? e, fun e2 => hj (rise_inj h.rise e hf e2)⟩
  have hfa : ∀ q ∈ s.files, q.1 ≠ f.1 → FilM w' (gm q.1) (vm q.1) q := fun q hq hne => (h.fil q hq).only ho
    (fun hk => by
      rcases hF _ hk with e | e | e
      · exact h.r_ne_g hq e.symm
      · exact hne (h.inj q hq f hfm e)
      · exact h.g_ne_v hq hfm e rfl)
    (fun k hk hk2 => by
      rcases hF _ hk2 with e | e | e
      · exact h.r_ne_v hq hk e.symm
      · exact h.g_ne_v hfm hq hk e.symm
      · exact hne (h.injv q hq f hfm k hk e))
  refine ⟨⟨hbox, ?_, ?_, ?_, ?_, hr, ?_⟩, ?_⟩
  · have hm := h.map.only ho fun b hb hk => by
      rcases hF _ hk with e | e | e
      · exact h.m_ne_r hb e
      · exact h.m_ne_g hb hfm e
      · exact h.m_ne_v hb hfm e rfl
    cases mb with
    | none =>
      have : s.files = [] := hm
      rw [this] at hfm; cases hfm
    | some b =>
      show World.ownsMap _ _ _ _ _ _ _
      rw [mapF_names hnm, show s'.files.length = s.files.length by rw [hs, List.length_modify]]
      exact hm
  · intro q hq
    rcases hmem q hq with rfl | ⟨hq1, hq2⟩
    · rw [hn, upd_same]; exact hfil
    · rw [upd_other _ _ hq2]; exact hfa q hq1 hq2
  · intro q hq p hp e
    have key : ∀ x ∈ s'.files, ∃ y ∈ s.files, y.1 = x.1 := fun x hx => by
      rcases hmem x hx with rfl | ⟨h1, _⟩
      · exact ⟨f, hfm, hn.symm⟩
      · exact ⟨x, h1, rfl⟩
    obtain ⟨q', hq', eq⟩ := key q hq
    obtain ⟨p', hp', ep⟩ := key p hp
    rw [← eq, ← ep] at e ⊢
    exact h.inj q' hq' p' hp' e
  · intro q hq p hp k hk1 hk2
    rcases hmem q hq with rfl | ⟨hq1, hq2⟩ <;> rcases hmem p hp with rfl | ⟨hp1, hp2⟩
    · rfl
    · exfalso
      rw [hn, upd_same] at hk1
      rw [upd_other _ _ hp2] at hk2
      rcases hv k hk1 with e | e
      · exact hp2 (h.injv p hp1 f hfm k hk2 e)
      · have := (h.fil p hp1).ltv hk2; omega
    · exfalso
      rw [hn, upd_same] at hk2
      rw [upd_other _ _ hq2] at hk1
      rcases hv k hk2 with e | e
      · exact hq2 (h.injv q hq1 f hfm k hk1 e)
      · have := (h.fil q hq1).ltv hk1; omega
    · rw [upd_other _ _ hq2] at hk1
      rw [upd_other _ _ hp2] at hk2
      exact h.injv q hq1 p hp1 k hk1 hk2
  · intro q hq
    rcases hmem q hq with rfl | ⟨hq1, _⟩
    · rw [hn]; exact h.short f hfm
    · exact h.short q hq1
  · intro k hk
    rcases hk with rfl | hk | ⟨q, hq, hk⟩
    · exact .inl (.inl rfl)
    · exact .inl (.inr (.inl hk))
    · rcases hmem q hq with rfl | ⟨hq1, hq2⟩
      · rw [hn, upd_same] at hk
        rcases hk with rfl | hk
        · exact .inl (.inr (.inr ⟨f, hfm, .inl rfl⟩))
        · rcases hv k hk with e | e
          · exact .inl (.inr (.inr ⟨f, hfm, .inr e⟩))
          · exact .inr e
      · rw [upd_other _ _ hq2] at hk
        exact .inl (.inr (.inr ⟨q, hq1, hk⟩))
/-- The box alone has turned. -/
theorem DskM.boxed {w w' : World} {r : Nat} {mb : Option Nat} {gm : List UInt8 → Nat} {vm : List UInt8 → Value} {s s' : St} (h : DskM w r mb gm vm s) (hs : s'.files = s.files) (ho : Only (fun k => k = r) w w') (hbox : Holds w' r 70 (boxC mb s')) :
    DskM w' r mb gm vm s' := by
  have hm := h.map.only ho fun b hb hk => h.m_ne_r hb hk
  refine ⟨hbox, by rw [hs]; exact hm, fun f hf => ?_, by rw [hs]; exact h.inj, by rw [hs]; exact h.injv, by rw [hs]; exact h.rise, by rw [hs]; exact h.short⟩
  rw [hs] at hf
  exact (h.fil f hf).only ho (fun e => h.r_ne_g hf e.symm) fun k hk e => h.r_ne_v hf hk e.symm
end Go.Proofs.YtmgbmphheagdmaaGreatDoor

/-
  The contracts of Down, find, perform, refused, Used, Fuse, Room, New, Read.
-/
namespace Go.Proofs.YtmgbmphheagdmaaGreatDoor
open Go.RowKit Go.Maps

section
variable {w w' : World} {r : Nat} {mb : Option Nat} {gm : List UInt8 → Nat} {vm : List UInt8 → Value} {s : St}
theorem DskM.cells (h : DskM w r mb gm vm s) : w.cell? ⟨r, 0, none⟩ = some (.map mb) ∧ w.cell? ⟨r, 0 + 1, none⟩ = some (.int .i64 (usedL s.files : Nat)) ∧ w.cell? ⟨r, 0 + 2, none⟩ = some (.int .i64 s.room) ∧ w.cell? ⟨r, 0 + 3, none⟩ = some (.bool s.off) ∧
    w.cell? ⟨r, 0 + 4, none⟩ = some (.bool (decide (0 ≤ s.fuse))) ∧ w.cell? ⟨r, 0 + 5, none⟩ = some (.int .i64 (max s.fuse 0)) :=
  ⟨Holds.cell h.box rfl, Holds.cell h.box rfl, Holds.cell h.box rfl, Holds.cell h.box rfl, Holds.cell h.box rfl, Holds.cell h.box rfl⟩

set_option maxRecDepth 100000 in
set_option maxHeartbeats 2000000 in
theorem down_m (h : DskM w r mb gm vm s) : Calls Tryz.prog 54 #[.pointer (some ⟨r, 0, none⟩)] w fun e w' => e = .returned (.bool s.off) ∧ w' = w := by
  obtain ⟨_, _, _, c3, _, _⟩ := h.cells
  have Hd := Lib.hid h
  clear h
  go_enter Tryz.func54, Tryz.ntmps54
  go_wp2
  go_ret
  exact ⟨rfl, rfl⟩

/-- What find answers. -/
def findV (gm : List UInt8 → Nat) (nm : List UInt8) (s : St) : Value := if s.off = true then .tuple #[.pointer none, .int .i64 7] else match atN nm s.files with
  | none => .tuple #[.pointer none, .int .i64 8]
  | some _ => .tuple #[.pointer (some ⟨gm nm, 0, none⟩), .int .i64 0]
theorem findV_off {nm : List UInt8} (ho : s.off = true) : findV gm nm s = .tuple #[.pointer none, .int .i64 7] := if_pos ho
theorem findV_none {nm : List UInt8} (ho : s.off = false) (hat : atN nm s.files = none) : findV gm nm s = .tuple #[.pointer none, .int .i64 8] := by unfold findV; rw [ho, hat]; rfl
theorem findV_some {nm : List UInt8} {i : Nat} (ho : s.off = false) (hat : atN nm s.files = some i) : findV gm nm s = .tuple #[.pointer (some ⟨gm nm, 0, none⟩), .int .i64 0] := by unfold findV; rw [ho, hat]; rfl
theorem off_false (h : ¬ s.off = true) : s.off = false := by cases h : s.off <;> simp_all
theorem elP_at {nm : List UInt8} {l : List Fl} {i : Nat} (hat : atN nm l = some i) (z : DataW Unit) : (mapF (elP gm) l).atKey (.string nm) z = .lit (.int .i64 (gm nm)) := by
  obtain ⟨f, hf, hn⟩ := atN_some hat
  rw [mapF_at (elP gm) z hat hf]; unfold elP; rw [hn]

/-- 'f, ok := d.files[name]': no other world, and what stands there. -/
theorem look_m (h : DskM w r mb gm vm s) {nm : List UInt8} (hnm : nm.length ≤ 9223372036854775807) :
    (Instr.lookup 68 (.map mb) (.string (bs nm)) true).run Tryz.prog w = .ok (.tuple #[match atN nm s.files with | none => .pointer none | some _ => .pointer (some ⟨gm nm, 0, none⟩), .bool (atN nm s.files).isSome]) w := by
  have hm := h.map
  cases mb with
  | none =>
    have : s.files = [] := hm
    rw [this]
    exact Maps.look_nil true law9 Tryz.underlying68 (zero70 w) (key_bs hnm)
  | some b =>
    obtain ⟨v, ps, h1, h2⟩ := World.ownsMap.look_ok hm law9 Tryz.underlying68 (zero70 w) (zd := .nil) (zp := []) rfl (key_bs hnm)
    rw [h1, mapF_has]
    cases hat : atN nm s.files with
    | none =>
      rw [mapF_no _ _ hat] at h2
      rw [ptr_nil h2]
    | some i =>
      rw [elP_at hat] at h2
      rw [ptr_inv h2]
theorem wpList_lookup_run {P : Program} {ops : Array Oper} {rest : List Oper} {o : Oper} {a : Act} {Q : Exit → Act → World → Prop} {w : World} (hg : o.guard = none) (m x : Operand) (t : TypeId) (c : Bool) (hop : o.op = Op.lookup t m x c)
    (mv key v : Value) (hm : a.eval m = mv) (hx : a.eval x = key) (hrun : (Instr.lookup t mv key c).run P w = .ok v w) (hK : wpList P ops Q rest (a.put o.dst v) w) : wpList P ops Q (o :: rest) a w := by
  refine wpList_plain hg fun K' hK' => ?_
  unfold Oper.wp
  simp [execOp, hop, hm, hx, hrun, Result.andThen]
  exact hK' _ _ hK

set_option maxRecDepth 100000 in
set_option maxHeartbeats 2000000 in
theorem find_m (h : DskM w r mb gm vm s) {nm : List UInt8} (hnm : nm.length ≤ 9223372036854775807) : Calls Tryz.prog 53 #[.pointer (some ⟨r, 0, none⟩), .string (bs nm)] w fun e w' => e = .returned (findV gm nm s) ∧ w' = w := by
  obtain ⟨c0, _, _, _, _, _⟩ := h.cells
  have HD := Lib.hid (down_m h)
  have HL := Lib.hid (look_m h hnm)
  clear h
  by_cases ho : s.off = true
  · rw [findV_off ho]
    rw [ho] at HD
    clear ho HL
    go_enter Tryz.func53, Tryz.ntmps53
    go_wp2_with (go_at_call 54; refine HD.out.mono ?_; rintro e w' ⟨rfl, rfl⟩)
    go_ret2
    exact ⟨rfl, rfl⟩
  · have ho' := off_false ho
    rw [ho'] at HD
    cases hat : atN nm s.files with
    | none =>
      rw [findV_none ho' hat]
      rw [hat] at HL
      clear ho ho' hat
      go_enter Tryz.func53, Tryz.ntmps53
      go_wp2_with (first | (go_at_call 54; refine HD.out.mono ?_; rintro e w' ⟨rfl, rfl⟩) | (at_lookup; refine wpList_lookup_run rfl _ _ 68 true rfl _ _ _ rfl rfl HL.out ?_))
      go_ret2
      exact ⟨rfl, rfl⟩
    | some i =>
      rw [findV_some ho' hat]
      rw [hat] at HL
      clear ho ho' hat
      go_enter Tryz.func53, Tryz.ntmps53
      go_wp2_with (first | (go_at_call 54; refine HD.out.mono ?_; rintro e w' ⟨rfl, rfl⟩) | (at_lookup; refine wpList_lookup_run rfl _ _ 68 true rfl _ _ _ rfl rfl HL.out ?_))
      go_ret2
      exact ⟨rfl, rfl⟩

set_option maxRecDepth 100000 in
set_option maxHeartbeats 2000000 in
theorem perform_err (x : Int) (hx : x ≠ 0) (a : Option Addr) (w : World) : Calls Tryz.prog 47 #[.pointer a, .int .i64 x] w fun e w' => e = .returned (.int .i64 x) ∧ w' = w := by
  have hx' : (x != 0) = true := by simp [hx]
  go_enter Tryz.func47, Tryz.ntmps47
  go_wp2
  go_ret
  exact ⟨rfl, rfl⟩
theorem only_set (w : World) (r i : Nat) (x : Value) : Only (fun k => k = r) w (w.setCell ⟨r, i, none⟩ x) := (Only.refl (fun k => k = r) w).setCell ⟨r, i, none⟩ x (.inl rfl)
theorem DskM.setBox (h : DskM w r mb gm vm s) {s' : St} (i : Nat) (x : Value) (hs : s'.files = s.files) (hx : (boxC mb s).set i x = boxC mb s') : DskM (w.setCell ⟨r, i, none⟩ x) r mb gm vm s' :=
  h.boxed hs (only_set w r i x) (by rw [← hx]; exact h.box.set i x)

set_option maxRecDepth 100000 in
set_option maxHeartbeats 2000000 in
theorem perform_m (h : DskM w r mb gm vm s) (hf : Fit s) (ho : s.off = false) : Calls Tryz.prog 47 #[.pointer (some ⟨r, 0, none⟩), .int .i64 0] w fun e w' => e = .returned (.int .i64 (if (burnS s).off = true then 7 else 0)) ∧ DskM w' r mb gm vm (burnS s) ∧ Only (fun k => k = r) w w' := by
  obtain ⟨_, _, _, _, c4, c5⟩ := h.cells
  have f3 := h.box.frozen 3
  have f5 := h.box.frozen 5
  have H := Lib.hid h
  have hf0 := hf.fuse0
  have hf1 := hf.fuse1
  clear h hf
  obtain ⟨files, room, fuse, off⟩ := s
  simp only at *
  subst ho
  by_cases h0 : fuse = 0
  · subst h0
    have hb : burnS ⟨files, room, 0, false⟩ = ⟨files, room, 0, true⟩ := by simp [burnS]
    have Hn : Hid (DskM (w.setCell ⟨r, 3, none⟩ (.bool true)) r mb gm vm ⟨files, room, 0, true⟩) := Lib.hid (H.out.setBox 3 _ rfl rfl)
    rw [hb, if_pos rfl]
    rw [show decide ((0 : Int) ≤ 0) = true from rfl] at c4
    rw [show max (0 : Int) 0 = 0 from rfl] at c5
    clear hb
    go_enter Tryz.func47, Tryz.ntmps47
    go_wp2
    go_ret
    exact ⟨rfl, Hn.out, only_set _ _ _ _⟩
  · by_cases h1 : 0 < fuse
    · have hb : burnS ⟨files, room, fuse, false⟩ = ⟨files, room, fuse - 1, false⟩ := by simp [burnS, h0, h1]
      have e5 : max fuse 0 = fuse := by omega
      have Hn : Hid (DskM (w.setCell ⟨r, 5, none⟩ (.int .i64 (fuse - 1))) r mb gm vm ⟨files, room, fuse - 1, false⟩) := Lib.hid (H.out.setBox 5 _ rfl (by
        simp only [boxC, List.set_cons_succ, List.set_cons_zero]
        rw [show max (fuse - 1) 0 = fuse - 1 by omega, decide_eq_true (show (0 : Int) ≤ fuse by omega), decide_eq_true (show (0 : Int) ≤ fuse - 1 by omega)]))
      rw [hb, if_neg (by simp)]
      rw [e5] at c5
      rw [decide_eq_true (show (0 : Int) ≤ fuse by omega)] at c4
      have hne : (fuse == 0) = false := beq_eq_false_iff_ne.2 h0
      clear hb e5
      go_enter Tryz.func47, Tryz.ntmps47
      go_wp2
      go_ret
      exact ⟨rfl, Hn.out, only_set _ _ _ _⟩
    · have hb : burnS ⟨files, room, fuse, false⟩ = ⟨files, room, fuse, false⟩ := by simp [burnS, h0, h1]
      rw [hb, if_neg (by simp)]
      rw [decide_eq_false (show ¬ (0 : Int) ≤ fuse by omega)] at c4
      clear hb
      go_enter Tryz.func47, Tryz.ntmps47
      go_wp2
      go_ret
      exact ⟨rfl, H.out, Only.refl _ _⟩

/-- Why a text can't be appended. -/
def refuS (nm : List UInt8) (n : Nat) (s : St) : Int := if s.off = true then 7 else if rightL nm = false then 5 else if s.room < ((usedL s.files + n : Nat) : Int) then 6 else 0
set_option maxRecDepth 100000 in
set_option maxHeartbeats 2000000 in
theorem refused_m (h : DskM w r mb gm vm s) (hf : Fit s) {nm : List UInt8} (hnm : nm.length ≤ 1000000) (n : Nat) (hn : n ≤ 2000000) : Calls Tryz.prog 48 #[.pointer (some ⟨r, 0, none⟩), .string (bs nm), .int .i64 (n : Int)] w fun e w' => e = .returned (.int .i64 (refuS nm n s)) ∧ Below w.heap.size w w' := by
  have HD := Lib.hid (down_m h)
  have HR := Lib.hid (right_any (bs nm) w (by rw [bs_size]; omega))
  rw [bl_bs] at HR
  have H := Lib.hid h
  have hu := hf.used
  have hr0 := hf.room0
  have hr1 := hf.room1
  clear h hf
  unfold refuS
  by_cases ho : s.off = true
  · rw [if_pos ho]
    rw [ho] at HD
    clear ho HR
    go_enter Tryz.func48, Tryz.ntmps48
    go_wp2_with (go_at_call 54; refine HD.out.mono ?_; rintro e w' ⟨rfl, rfl⟩)
    go_ret
    exact ⟨rfl, Below.refl _ _⟩
  · rw [if_neg ho]
    rw [off_false ho] at HD
    clear ho
    cases hrt : rightL nm with
    | false =>
      rw [if_pos rfl]
      rw [hrt] at HR
      clear hrt
      go_enter Tryz.func48, Tryz.ntmps48
      go_wp2_with (first | (go_at_call 54; refine HD.out.mono ?_; rintro e w' ⟨rfl, rfl⟩) | (go_at_call 74; refine HR.out.mono ?_; rintro e w1 ⟨rfl, hb1⟩; have Hb1 := Lib.hid hb1; clear hb1))
      go_ret
      exact ⟨rfl, by first | exact Hb1.out | exact below_drewN Hb1.out _⟩
    | true =>
      rw [if_neg (by simp)]
      rw [hrt] at HR
      clear hrt
      by_cases hfull : s.room < ((usedL s.files + n : Nat) : Int)
      · rw [if_pos hfull]
        go_enter Tryz.func48, Tryz.ntmps48
        go_wp2_with (first | (go_at_call 54; refine HD.out.mono ?_; rintro e w' ⟨rfl, rfl⟩) | (go_at_call 74; refine HR.out.mono ?_; rintro e w1 ⟨rfl, hb1⟩; have Hb1 := Lib.hid hb1; obtain ⟨_, c1, c2, _, _, _⟩ := (H.out.below hb1).cells; clear hb1))
        go_quiet (fail)
        go_wp2
        go_ret
        exact ⟨rfl, by first | exact Hb1.out | exact below_drewN Hb1.out _⟩
      · rw [if_neg hfull]
        go_enter Tryz.func48, Tryz.ntmps48
        go_wp2_with (first | (go_at_call 54; refine HD.out.mono ?_; rintro e w' ⟨rfl, rfl⟩) | (go_at_call 74; refine HR.out.mono ?_; rintro e w1 ⟨rfl, hb1⟩; have Hb1 := Lib.hid hb1; obtain ⟨_, c1, c2, _, _, _⟩ := (H.out.below hb1).cells; clear hb1))
        go_quiet (fail)
        go_wp2
        go_ret
        exact ⟨rfl, by first | exact Hb1.out | exact below_drewN Hb1.out _⟩
end
end Go.Proofs.YtmgbmphheagdmaaGreatDoor

/-
  The contracts of truncate, kept, Used, Fuse, Room, New, Read.
-/
namespace Go.Proofs.YtmgbmphheagdmaaGreatDoor
open Go.RowKit Go.Maps

section
variable {w w' : World} {r : Nat} {mb : Option Nat} {gm : List UInt8 → Nat} {vm : List UInt8 → Value} {s : St}
theorem own_conv {v : Value} {n : Nat} {l : List UInt8} (h : w.ownsRow 0 5 1 v n (byC l)) : (convert 66 9 v).run Tryz.prog w = .ok (.string (bs l)) w := by
  have hl : l.length = n := by have := h.1; rw [byC_length] at this; omega
  rcases h.2 with ⟨rfl, rfl⟩ | ⟨g, cap, cur, rfl, _, hh, _, _, _, ht⟩
  · have : l = [] := List.eq_nil_of_length_eq_zero hl
    subst this
    rw [run_convert_bytes_string w 66 9 5 none 0 0 Tryz.underlying66 Tryz.underlying5 Tryz.underlying9, bs_eq]
    rfl
  · refine conv_row (t := 5) (rest := cur.toList.drop n) ?_ n cap hl
    unfold Holds
    rw [hh]
    have : byC l ++ cur.toList.drop n = cur.toList := by
      rw [← ht, Nat.mul_one, List.take_append_drop]
    rw [this]

set_option maxRecDepth 100000 in
set_option maxHeartbeats 2000000 in
theorem used_m (h : DskM w r mb gm vm s) : Calls Tryz.prog 27 #[.pointer (some ⟨r, 0, none⟩)] w fun e w' => e = .returned (.int .i64 (usedS s : Nat)) ∧ w' = w := by
  obtain ⟨_, c1, _, _, _, _⟩ := h.cells
  have HD := Lib.hid (down_m h)
  clear h
  unfold usedS
  by_cases ho : s.off = true
  · rw [if_pos ho]
    rw [ho] at HD
    clear ho
    go_enter Tryz.func27, Tryz.ntmps27
    go_wp2_with (go_at_call 54; refine HD.out.mono ?_; rintro e w' ⟨rfl, rfl⟩)
    go_ret
    exact ⟨rfl, rfl⟩
  · rw [if_neg ho]
    rw [off_false ho] at HD
    clear ho
    go_enter Tryz.func27, Tryz.ntmps27
    go_wp2_with (go_at_call 54; refine HD.out.mono ?_; rintro e w' ⟨rfl, rfl⟩)
    go_ret
    exact ⟨rfl, rfl⟩

set_option maxRecDepth 100000 in
set_option maxHeartbeats 2000000 in
theorem fuse_m (h : DskM w r mb gm vm s) (n : Int) (hn : I64 n) : Calls Tryz.prog 18 #[.pointer (some ⟨r, 0, none⟩), .int .i64 n] w fun e w' => e = .returned (.tuple #[]) ∧ DskM w' r mb gm vm (fuseS n s) ∧ Only (fun k => k = r) w w' := by
  obtain ⟨_, _, _, _, c4, c5⟩ := h.cells
  have f4 := h.box.frozen 4
  have f5 := h.box.frozen 5
  obtain ⟨hn1, hn2⟩ := hn
  have Hn : Hid (∀ b x, b = decide (0 ≤ n) → x = max n 0 → DskM ((w.setCell ⟨r, 4, none⟩ (.bool b)).setCell ⟨r, 5, none⟩ (.int .i64 x)) r mb gm vm (fuseS n s) ∧ Only (fun k => k = r) w ((w.setCell ⟨r, 4, none⟩ (.bool b)).setCell ⟨r, 5, none⟩ (.int .i64 x))) := Lib.hid (fun b x hb hx => by
    have ho := (only_set w r 4 (.bool b)).trans (only_set _ r 5 (.int .i64 x))
    refine ⟨h.boxed rfl ho ?_, ho⟩
    have := (h.box.set 4 (.bool b)).set 5 (.int .i64 x)
    rw [hb, hx] at this ⊢
    refine cast (congrArg (Holds _ r 70) ?_) this
    have e1 : decide (0 ≤ (fuseS n s).fuse) = decide (0 ≤ n) := decide_eq_decide.2 (by show 0 ≤ max n (-1) ↔ _; omega)
    have e2 : max (fuseS n s).fuse 0 = max n 0 := by show max (max n (-1)) 0 = _; omega
    unfold boxC
    rw [e1, e2]
    rfl)
  clear h
  by_cases h0 : 0 ≤ n
  · have Hn2 := Lib.hid (Hn.out true n (decide_eq_true h0).symm (by omega))
    have h1 : ¬ n < 0 := by omega
    have hm : max n 0 = n := by omega
    clear Hn
    go_enter Tryz.func18, Tryz.ntmps18
    go_wp2
    go_end0
    exact ⟨rfl, Hn2.out⟩
  · have Hn2 := Lib.hid (Hn.out false 0 (decide_eq_false h0).symm (by omega))
    have h1 : n < 0 := by omega
    have hm : max n 0 = 0 := by omega
    clear Hn
    go_enter Tryz.func18, Tryz.ntmps18
    go_wp2
    go_end0
    exact ⟨rfl, Hn2.out⟩

set_option maxRecDepth 100000 in
set_option maxHeartbeats 2000000 in
theorem room_m (h : DskM w r mb gm vm s) (n : Int) (hn : I64 n) : Calls Tryz.prog 19 #[.pointer (some ⟨r, 0, none⟩), .int .i64 n] w fun e w' => e = .returned (.int .i64 (roomS n s).1) ∧ DskM w' r mb gm vm (roomS n s).2 ∧ Only (fun k => k = r) w w' := by
  obtain ⟨_, _, c2, _, _, _⟩ := h.cells
  have f2 := h.box.frozen 2
  obtain ⟨hn1, hn2⟩ := hn
  by_cases hr : 0 ≤ n ∧ n ≤ 8388608
  · have hv : roomS n s = (0, { s with room := n }) := if_pos hr
    rw [hv]
    have Hn := Lib.hid (h.setBox (s' := { s with room := n }) 2 (.int .i64 n) rfl rfl)
    have h1 : ¬ n < 0 := by omega
    have h2 : ¬ 8388608 < n := by omega
    clear h hr hv
    go_enter Tryz.func19, Tryz.ntmps19
    go_wp2
    go_ret
    exact ⟨rfl, Hn.out, only_set _ _ _ _⟩
  · have hv : roomS n s = (1, s) := if_neg hr
    rw [hv]
    have H := Lib.hid h
    clear h hv
    by_cases h1 : n < 0
    · clear hr
      go_enter Tryz.func19, Tryz.ntmps19
      go_wp2
      go_ret
      exact ⟨rfl, H.out, Only.refl _ _⟩
    · have h2 : 8388608 < n := by omega
      clear hr
      go_enter Tryz.func19, Tryz.ntmps19
      go_wp2
      go_ret
      exact ⟨rfl, H.out, Only.refl _ _⟩

set_option maxRecDepth 100000 in
set_option maxHeartbeats 2000000 in
theorem read_m (h : DskM w r mb gm vm s) {nm : List UInt8} (hnm : nm.length ≤ 9223372036854775807) : Calls Tryz.prog 30 #[.pointer (some ⟨r, 0, none⟩), .string (bs nm)] w fun e w' => e = .returned (.tuple #[.string (bs (readS nm s).1), .int .i64 (readS nm s).2]) ∧ w' = w := by
  have HF := Lib.hid (find_m h hnm)
  have H := Lib.hid h
  clear h
  unfold readS
  by_cases ho : s.off = true
  · rw [if_pos ho]
    rw [findV_off ho] at HF
    clear ho
    go_enter Tryz.func30, Tryz.ntmps30
    go_wp2_with (go_at_call 53; refine HF.out.mono ?_; rintro e w' ⟨rfl, rfl⟩)
    go_ret2
    exact ⟨by rw [show bs [] = ({ data := #[] } : ByteArray) by rw [bs_eq]]; rfl, rfl⟩
  · rw [if_neg ho]
    have ho' := off_false ho
    cases hat : atN nm s.files with
    | none =>
      rw [findV_none ho' hat] at HF
      clear ho ho' hat
      go_enter Tryz.func30, Tryz.ntmps30
      go_wp2_with (go_at_call 53; refine HF.out.mono ?_; rintro e w' ⟨rfl, rfl⟩)
      go_ret2
      exact ⟨by rw [show bs [] = ({ data := #[] } : ByteArray) by rw [bs_eq]]; rfl, rfl⟩
    | some i =>
      obtain ⟨f, hf, hn⟩ := atN_some hat
      simp only [hf]
      rw [findV_some ho' hat] at HF
      have hfil := H.out.fil f (List.mem_of_getElem? hf)
      rw [hn] at hfil
      have c0 := hfil.box.cell (i := 0) rfl
      have hcv := own_conv hfil.own
      clear ho ho' hat hf hn hfil H
      generalize vm nm = v at *
      generalize gm nm = g at *
      go_enter Tryz.func30, Tryz.ntmps30
      go_wp2_with (go_at_call 53; refine HF.out.mono ?_; rintro e w' ⟨rfl, rfl⟩)
      go_ret2
      exact ⟨rfl, rfl⟩
end
end Go.Proofs.YtmgbmphheagdmaaGreatDoor

/-
  The contracts of truncate and kept.
-/
namespace Go.Proofs.YtmgbmphheagdmaaGreatDoor
open Go.RowKit Go.Maps

section
variable {w w' : World} {r : Nat} {mb : Option Nat} {gm : List UInt8 → Nat} {vm : List UInt8 → Value} {s : St}
/-- The first m bytes of a row. -/
theorem own_cut {v : Value} {n m : Nat} {l : List UInt8} (h : w.ownsRow 0 5 1 v n (byC l)) (hm : m ≤ n) : (v = .slice none 0 0 ∧ n = 0) ∨ ∃ g cap, v = .slice (some ⟨g, 0, none⟩) n cap ∧ n ≤ cap ∧ cap ≤ maxLen ∧ w.ownsRow 0 5 1 (.slice (some ⟨g, 0, none⟩) m cap) m (byC (l.take m)) := by
  rcases h.2 with h0 | ⟨g, cap, cur, rfl, hb, hh, hc, hcm, hcs, ht⟩
  · exact .inl h0
  · refine .inr ⟨g, cap, rfl, hc, hcm, ?_, .inr ⟨g, cap, cur, rfl, hb, hh, by omega, hcm, hcs, ?_⟩⟩
    · have := h.1
      rw [byC_length] at this ⊢
      rw [List.length_take]; omega
    · rw [← byC_take, ← ht, List.take_take]; congr 1; omega
theorem cutF_all (n : Nat) (f : Fl) : (cutF n f).2.1 ++ (cutF n f).2.2 = (f.2.1 ++ f.2.2).take n := by
  show (f.2.1 ++ f.2.2).take (min n f.2.1.length) ++ ((f.2.1 ++ f.2.2).take n).drop (min n f.2.1.length) = _
  have : (f.2.1 ++ f.2.2).take (min n f.2.1.length) = ((f.2.1 ++ f.2.2).take n).take (min n f.2.1.length) := by
    rw [List.take_take]; congr 1; omega
  rw [this, List.take_append_drop]
theorem cutF_size {n : Nat} {f : Fl} (h : n ≤ sizeF f) : sizeF (cutF n f) = n := by
  have := congrArg List.length (cutF_all n f)
  rw [List.length_append, List.length_take, List.length_append] at this
  unfold sizeF at h ⊢; omega
theorem cutF_done {n : Nat} {f : Fl} (h : n ≤ sizeF f) : (cutF n f).2.1.length = min f.2.1.length n := by
  show ((f.2.1 ++ f.2.2).take (min n f.2.1.length)).length = _
  rw [List.length_take, List.length_append]
  unfold sizeF at h; omega

/-- What truncate leaves. -/
theorem trunc_end (h : DskM w r mb gm vm s) {i : Nat} {f : Fl} (hf : s.files[i]? = some f) (n : Nat) (hn : n ≤ sizeF f) (v' : Value) (hown : w.ownsRow 0 5 1 v' n (byC ((f.2.1 ++ f.2.2).take n))) (hv : ∀ k, v'.ownBlock = some k → (vm f.1).ownBlock = some k)
    (x y : Int) (hx : x = (usedL s.files : Int) - ((sizeF f : Int) - n)) (hy : y = min (f.2.1.length : Int) n) (q : Nat) :
    DskM (((w.drewN q).setCell ⟨r, 1, none⟩ (.int .i64 x)).setCell ⟨gm f.1, 0, none⟩ v' |>.setCell ⟨gm f.1, 1, none⟩ (.int .i64 y)) r mb gm (upd vm f.1 v') { s with files := s.files.modify i fun _ => cutF n f } ∧
    Only (fun k => k = r ∨ k = gm f.1) w (((w.drewN q).setCell ⟨r, 1, none⟩ (.int .i64 x)).setCell ⟨gm f.1, 0, none⟩ v' |>.setCell ⟨gm f.1, 1, none⟩ (.int .i64 y)) ∧
    (∀ k, FootM r mb gm (upd vm f.1 v') (s.files.modify i fun _ => cutF n f) k → FootM r mb gm vm s.files k ∨ w.heap.size ≤ k) := by
  have hfm := List.mem_of_getElem? hf
  have ho : Only (fun k => k = r ∨ k = gm f.1) w (((w.drewN q).setCell ⟨r, 1, none⟩ (.int .i64 x)).setCell ⟨gm f.1, 0, none⟩ v' |>.setCell ⟨gm f.1, 1, none⟩ (.int .i64 y)) :=
    (((((Only.refl _ w).drewN q).setCell ⟨r, 1, none⟩ _ (.inl (.inl rfl)))).setCell ⟨gm f.1, 0, none⟩ _ (.inl (.inr rfl))).setCell ⟨gm f.1, 1, none⟩ _ (.inl (.inr rfl))
  have hne : r ≠ gm f.1 := h.r_ne_g hfm
  have hu := used_modify (f' := cutF n f) hf
  rw [cutF_size hn] at hu
  have hus := size_used hf
  have hsz : sizeF f = f.2.1.length + f.2.2.length := rfl
  have hbox : Holds (((w.drewN q).setCell ⟨r, 1, none⟩ (.int .i64 x)).setCell ⟨gm f.1, 0, none⟩ v' |>.setCell ⟨gm f.1, 1, none⟩ (.int .i64 y)) r 70 (boxC mb { s with files := s.files.modify i fun _ => cutF n f }) := by
    refine Holds.aside (Holds.aside ?_ hne _) hne _
    have := (h.box.drewN' q).set 1 (.int .i64 x)
    refine cast (congrArg (Holds _ r 70) ?_) this
    show [Value.map mb, .int .i64 x, _, _, _, _] = [Value.map mb, .int .i64 (usedL (s.files.modify i fun _ => cutF n f) : Nat), _, _, _, _]
    rw [show x = ((usedL (s.files.modify i fun _ => cutF n f) : Nat) : Int) by omega]
  have hfil : FilM (((w.drewN q).setCell ⟨r, 1, none⟩ (.int .i64 x)).setCell ⟨gm f.1, 0, none⟩ v' |>.setCell ⟨gm f.1, 1, none⟩ (.int .i64 y)) (gm f.1) v' (cutF n f) := by
    refine ⟨?_, ?_⟩
    · have h1 := (Holds.aside ((h.fil f hfm).box.drewN' q) (a := ⟨r, 1, none⟩) (Ne.symm hne) (.int .i64 x))
      have h2 := (h1.set 0 v').set 1 (.int .i64 y)
      refine cast (congrArg (Holds _ _ 84) ?_) h2
      show [v', .int .i64 y] = [v', .int .i64 ((cutF n f).2.1.length : Int)]
      rw [cutF_done hn, hy, show ((min f.2.1.length n : Nat) : Int) = min (f.2.1.length : Int) n by omega]
    · rw [cutF_size hn, cutF_all]
      exact own_only hown ho fun j hj => fun e => by
        rcases hj with rfl | rfl
        · exact h.r_ne_v hfm (hv _ e) rfl
        · exact h.g_ne_v hfm hfm (hv _ e) rfl
  obtain ⟨h1, h2⟩ := h.turn (s' := { s with files := s.files.modify i fun _ => cutF n f }) hf (show (cutF n f).1 = f.1 from rfl) rfl ho (fun k hk => by rcases hk with e | e; exact .inl e; exact .inr (.inl e)) hbox hfil (fun k hk => .inl (hv k hk))
  exact ⟨h1, ho, h2⟩

set_option maxRecDepth 100000 in
set_option maxHeartbeats 4000000 in
theorem trunc_m (h : DskM w r mb gm vm s) (hfit : Fit s) {i : Nat} {f : Fl} (hf : s.files[i]? = some f) (n : Nat) (hn : n ≤ sizeF f) : Calls Tryz.prog 45 #[.pointer (some ⟨r, 0, none⟩), .pointer (some ⟨gm f.1, 0, none⟩), .int .i64 (n : Int)] w fun e w' => e = .returned (.tuple #[]) ∧
    ∃ v', DskM w' r mb gm (upd vm f.1 v') { s with files := s.files.modify i fun _ => cutF n f } ∧ Only (fun k => k = r ∨ k = gm f.1) w w' ∧ (∀ k, FootM r mb gm (upd vm f.1 v') (s.files.modify i fun _ => cutF n f) k → FootM r mb gm vm s.files k ∨ w.heap.size ≤ k) := by
  have hfm := List.mem_of_getElem? hf
  have hfil := h.fil f hfm
  have hne : r ≠ gm f.1 := h.r_ne_g hfm
  have hne' : gm f.1 ≠ r := hne.symm
  obtain ⟨_, c1, _, _, _, _⟩ := h.cells
  have f1 := h.box.frozen 1
  have g0 := hfil.box.frozen 0
  have g1 := hfil.box.frozen 1
  have hu := hfit.used
  have hus := size_used hf
  have hsz : sizeF f = f.2.1.length + f.2.2.length := rfl
  have d1 : w.cell? ⟨gm f.1, 0 + 1, none⟩ = some (.int .i64 (f.2.1.length : Int)) := hfil.box.cell rfl
  have d0 : w.cell? ⟨gm f.1, 0, none⟩ = some (vm f.1) := hfil.box.cell rfl
  rcases own_cut hfil.own hn with ⟨hv, h0⟩ | ⟨g, cap, hv, hc, hcm, hown⟩
  · rw [hv] at d0
    obtain rfl : n = 0 := by omega
    have hv0 : w.ownsRow 0 5 1 (.slice none 0 0) 0 (byC ((f.2.1 ++ f.2.2).take 0)) := by
      rw [List.take_zero, byC_eq]; exact World.ownsRow_nil _ _ _ _
    have hd0 : f.2.1.length = 0 := by omega
    have HE := Lib.hid (trunc_end h hf 0 hn (.slice none 0 0) hv0 (fun k hk => by simp [Value.ownBlock] at hk))
    rw [hd0] at d1
    rw [hd0, h0] at HE
    generalize gm f.1 = gg at *
    generalize usedL s.files = us at *
    clear hv0 hfil h hfit hf hfm hv hd0 h0 hn hsz hus
    go_enter Tryz.func45, Tryz.ntmps45
    go_wp2
    go_region
    all_goals
      go_wp2
      go_end0
      exact ⟨rfl, _, HE.out _ _ (by first | rfl | omega) (by first | rfl | omega) 1⟩
  · rw [hv] at d0
    have HE := Lib.hid (trunc_end h hf n hn (.slice (some ⟨g, 0, none⟩) n cap) hown (fun k hk => by rw [hv]; exact hk))
    generalize gm f.1 = gg at *
    generalize sizeF f = sz at *
    generalize f.2.1.length = dn at *
    generalize usedL s.files = us at *
    clear hown hfil h hfit hf hfm hv
    go_enter Tryz.func45, Tryz.ntmps45
    go_wp2
    go_region
    all_goals
      go_wp2
      go_end0
      exact ⟨rfl, _, HE.out _ _ (by first | rfl | omega) (by first | rfl | omega) 1⟩
end
end Go.Proofs.YtmgbmphheagdmaaGreatDoor

/-
  The contract of kept.
-/
namespace Go.Proofs.YtmgbmphheagdmaaGreatDoor
open Go.RowKit Go.Maps

set_option maxRecDepth 100000 in
set_option maxHeartbeats 2000000 in
theorem kept_m (keep : List Int) (A : Option Addr) (kl kc : Nat) (w : World) (hl : keep.length = kl) (hrow : RowAt w A (intC keep)) (hI : ∀ x ∈ keep, I64 x) (hkl : kl ≤ 9223372036854775807) (i m : Nat) (_ : i ≤ 1000000) (hm : m ≤ 1000000000) :
    Calls Tryz.prog 46 #[.slice A kl kc, .int .i64 (i : Int), .int .i64 (m : Int)] w fun e w' => e = .returned (.int .i64 (keepN keep i m : Nat)) ∧ w' = w := by
  by_cases h0 : keep = []
  · subst h0
    obtain rfl : kl = 0 := hl.symm
    have hv : keepN [] i m = 0 := by simp [keepN]
    rw [hv]
    clear hv hrow hI hl
    go_enter Tryz.func46, Tryz.ntmps46
    go_wp2
    go_ret
    exact ⟨rfl, rfl⟩
  · have hkp : 0 < kl := by rw [← hl]; exact List.length_pos_iff.2 h0
    have hlt : i % kl < kl := Nat.mod_lt _ hkp
    obtain ⟨x, hx⟩ : ∃ x, keep[i % kl]? = some x := ⟨_, List.getElem?_eq_getElem (by omega)⟩
    obtain ⟨b, off, rfl, hbl, hc⟩ := hrow (i % kl) (.int .i64 x) (by simp [intC, hx])
    obtain ⟨hx1, hx2⟩ := hI x (List.mem_of_getElem? hx)
    have hv : keepN keep i m = (x % 18446744073709551616).toNat % (m + 1) := by
      unfold keepN
      rw [if_neg h0, hl, List.getD_eq_getElem?_getD, hx]; rfl
    rw [hv]
    have hne : ((kl : Int) == 0) = false := by simp; omega
    have hrem : (i : Int).tmod (kl : Int) = ((i % kl : Nat) : Int) := rfl
    generalize hj : i % kl = j at *
    clear hv hrow hI hl hx h0 hj
    go_enter Tryz.func46, Tryz.ntmps46
    go_wp2
    go_ret
    refine ⟨?_, rfl⟩
    have e1 : IntKind.u64.wrap x = x % 18446744073709551616 := rfl
    have e2 : (x % 18446744073709551616).tmod ((m : Int) + 1) = (((x % 18446744073709551616).toNat % (m + 1) : Nat) : Int) := by
      have h1 : (((x % 18446744073709551616).toNat : Nat) : Int) = x % 18446744073709551616 := Int.toNat_of_nonneg (Int.emod_nonneg _ (by decide))
      rw [← h1]; rfl
    have e3 : (x % 18446744073709551616).toNat % (m + 1) < m + 1 := Nat.mod_lt _ (by omega)
    show Ending.returned (.int .i64 (wrap64 ((IntKind.u64.wrap x).tmod ((m : Int) + 1)))) = _
    rw [e1, e2]
    generalize (x % 18446744073709551616).toNat % (m + 1) = y at *
    rw [show wrap64 (y : Int) = y by unfold wrap64; omega]
end Go.Proofs.YtmgbmphheagdmaaGreatDoor

/-
  The contracts of Sync and Cut.
-/
namespace Go.Proofs.YtmgbmphheagdmaaGreatDoor
open Go.RowKit Go.Maps

section
variable {w w' : World} {r : Nat} {mb : Option Nat} {gm : List UInt8 → Nat} {vm : List UInt8 → Value} {s s' : St}
/-- What an operation leaves. -/
def OpRet (x : Value) (r : Nat) (mb : Option Nat) (gm : List UInt8 → Nat) (vm : List UInt8 → Value) (s s' : St) (w : World) (e : Ending) (w' : World) : Prop :=
  e = .returned x ∧ Got w (FootM r mb gm vm s.files) r s' w'
theorem got_box (h : DskM w' r mb gm vm s') (hs : s'.files = s.files) (ho : Only (fun k => k = r) w w') : Got w (FootM r mb gm vm s.files) r s' w' :=
  ⟨mb, gm, vm, h, ho.mono (fun _ e => .inl e), fun k hk => .inl (by rw [hs] at hk; exact hk)⟩
theorem got_same (h : DskM w r mb gm vm s) : Got w (FootM r mb gm vm s.files) r s w := got_box h rfl (Only.refl _ _)
theorem burn_fit (h : Fit s) : Fit (burnS s) := ⟨h.room0, h.room1, by show -1 ≤ (if 0 < s.fuse then s.fuse - 1 else s.fuse); have := h.fuse0; split <;> omega, by show (if 0 < s.fuse then s.fuse - 1 else s.fuse) ≤ _; have := h.fuse1; split <;> omega, h.used, h.len⟩
theorem sync_end (h : DskM w r mb gm vm s) {i : Nat} {f : Fl} (hf : s.files[i]? = some f) (x : Int) (hx : x = (sizeF f : Nat)) :
    DskM (w.setCell ⟨gm f.1, 1, none⟩ (.int .i64 x)) r mb gm (upd vm f.1 (vm f.1)) { s with files := s.files.modify i fun _ => syncF f } ∧
    Only (fun k => k = gm f.1) w (w.setCell ⟨gm f.1, 1, none⟩ (.int .i64 x)) ∧
    (∀ k, FootM r mb gm (upd vm f.1 (vm f.1)) (s.files.modify i fun _ => syncF f) k → FootM r mb gm vm s.files k ∨ w.heap.size ≤ k) := by
  have hfm := List.mem_of_getElem? hf
  have ho := only_set w (gm f.1) 1 (.int .i64 x)
  have hsz : sizeF (syncF f) = sizeF f := by unfold sizeF syncF; simp
  have hu := used_modify (f' := syncF f) hf
  rw [hsz] at hu
  have hbox : Holds (w.setCell ⟨gm f.1, 1, none⟩ (.int .i64 x)) r 70 (boxC mb { s with files := s.files.modify i fun _ => syncF f }) := by
    refine cast (congrArg (Holds _ r 70) ?_) (Holds.aside h.box (a := ⟨gm f.1, 1, none⟩) (h.r_ne_g hfm) (.int .i64 x))
    unfold boxC
    simp only
    rw [show usedL (s.files.modify i fun _ => syncF f) = usedL s.files by omega]
  have hfil : FilM (w.setCell ⟨gm f.1, 1, none⟩ (.int .i64 x)) (gm f.1) (vm f.1) (syncF f) := by
    refine ⟨?_, ?_⟩
    · refine cast (congrArg (Holds _ _ 84) ?_) ((h.fil f hfm).box.set 1 (.int .i64 x))
      show [vm f.1, .int .i64 x] = [vm f.1, .int .i64 ((f.2.1 ++ f.2.2).length : Nat)]
      rw [hx, List.length_append]; rfl
    · rw [hsz, show (syncF f).2.1 ++ (syncF f).2.2 = f.2.1 ++ f.2.2 by unfold syncF; simp]
      exact own_only (h.fil f hfm).own ho fun j hj e => h.g_ne_v hfm hfm e hj.symm
  obtain ⟨h1, h2⟩ := h.turn (s' := { s with files := s.files.modify i fun _ => syncF f }) hf (show (syncF f).1 = f.1 from rfl) rfl ho (fun k hk => .inr (.inl hk)) hbox hfil (fun k hk => .inl hk)
  exact ⟨h1, ho, h2⟩

set_option maxRecDepth 100000 in
set_option maxHeartbeats 4000000 in
theorem sync_m (h : DskM w r mb gm vm s) (hfit : Fit s) {nm : List UInt8} (hnm : nm.length ≤ 9223372036854775807) :
    Calls Tryz.prog 35 #[.pointer (some ⟨r, 0, none⟩), .string (bs nm)] w (OpRet (.int .i64 (syncS nm s).1) r mb gm vm s (syncS nm s).2 w) := by
  have HF := Lib.hid (find_m h hnm)
  have H := Lib.hid h
  by_cases ho : s.off = true
  · have hr : syncS nm s = (7, s) := by unfold syncS onS; rw [if_pos ho]
    rw [hr]
    rw [findV_off ho] at HF
    have HP := Lib.hid (perform_err 7 (by decide) (some ⟨r, 0, none⟩))
    clear ho hr h
    go_enter Tryz.func35, Tryz.ntmps35
    go_wp2_with (first | (go_at_call 53; refine HF.out.mono ?_; rintro e w' ⟨rfl, rfl⟩) | (go_at_call 47; refine (HP.out _).mono ?_; rintro e w' ⟨rfl, rfl⟩))
    go_ret
    exact ⟨rfl, got_same H.out⟩
  · have ho' := off_false ho
    cases hat : atN nm s.files with
    | none =>
      have hr : syncS nm s = (8, s) := by unfold syncS onS; rw [if_neg ho, hat]
      rw [hr]
      rw [findV_none ho' hat] at HF
      have HP := Lib.hid (perform_err 8 (by decide) (some ⟨r, 0, none⟩))
      clear ho ho' hr h hat
      go_enter Tryz.func35, Tryz.ntmps35
      go_wp2_with (first | (go_at_call 53; refine HF.out.mono ?_; rintro e w' ⟨rfl, rfl⟩) | (go_at_call 47; refine (HP.out _).mono ?_; rintro e w' ⟨rfl, rfl⟩))
      go_ret
      exact ⟨rfl, got_same H.out⟩
    | some i =>
      obtain ⟨f, hf, hn⟩ := atN_some hat
      subst hn
      have hr : syncS f.1 s = if (burnS s).off = true then (7, burnS s) else (0, { burnS s with files := s.files.modify i fun _ => syncF f }) := by
        unfold syncS onS; rw [if_neg ho, hat]; simp only; rw [modify_const syncF hf]
      rw [hr]
      rw [findV_some ho' hat] at HF
      have HP := Lib.hid (perform_m h hfit ho')
      by_cases hb : (burnS s).off = true
      · rw [if_pos hb]
        rw [if_pos hb] at HP
        clear ho ho' hr h hat hf hb
        go_enter Tryz.func35, Tryz.ntmps35
        go_wp2_with (first | (go_at_call 53; refine HF.out.mono ?_; rintro e w' ⟨rfl, rfl⟩) | (go_at_call 47; refine HP.out.mono ?_; rintro e w1 ⟨rfl, hd1, ho1⟩; have D1 := Lib.hid hd1; have O1 := Lib.hid ho1; clear hd1 ho1))
        go_ret
        exact ⟨rfl, got_box D1.out rfl O1.out⟩
      · rw [if_neg hb]
        rw [if_neg hb] at HP
        have Hf := Lib.hid hf
        obtain ⟨A, cap, hv, _⟩ := own_row (h.fil f (List.mem_of_getElem? hf)).own
        have Hv := Lib.hid hv
        clear ho ho' hr h hat hf hb hv
        go_enter Tryz.func35, Tryz.ntmps35
        go_wp2_with (first | (go_at_call 53; refine HF.out.mono ?_; rintro e w' ⟨rfl, rfl⟩) | (go_at_call 47; refine HP.out.mono ?_; rintro e w1 ⟨rfl, hd1, ho1⟩; have D1 := Lib.hid hd1; have O1 := Lib.hid ho1; have hfil := hd1.fil f (List.mem_of_getElem? Hf.out); have d0 : w1.cell? ⟨gm f.1, 0, none⟩ = some (.slice A (sizeF f) cap) := (by rw [← Hv.out]; exact hfil.box.cell rfl); have d1 : w1.cell? ⟨gm f.1, 0 + 1, none⟩ = some (.int .i64 (f.2.1.length : Int)) := hfil.box.cell rfl; have g1 := hfil.box.frozen 1; clear hfil hd1 ho1))
        go_ret
        obtain ⟨h1, h2, h3⟩ := sync_end D1.out Hf.out (sizeF f : Nat) rfl
        refine ⟨rfl, mb, gm, _, h1, (O1.out.mono (fun _ e => .inl e)).trans (h2.mono fun _ e => .inr (.inr ⟨f, List.mem_of_getElem? Hf.out, .inl e⟩)), fun k hk => ?_⟩
        rcases h3 k hk with e | e
        · exact .inl e
        · exact .inr (Nat.le_trans O1.out.size e)
end
end Go.Proofs.YtmgbmphheagdmaaGreatDoor
