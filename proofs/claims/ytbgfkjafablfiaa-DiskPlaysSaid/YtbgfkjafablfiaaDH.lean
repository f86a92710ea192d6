/-
  The contract of create.
-/
import Derived.Test.YtbgfkjafablfiaaDG
import Derived.Carry
namespace Go.Proofs.Ytbgfkjafablfiaa
open Go.RowKit Go.Maps

theorem put_mem {l : List Fl} {p : Nat} {x q : Fl} (h : q ∈ l.take p ++ x :: l.drop p) : q = x ∨ q ∈ l := by
  rcases List.mem_append.1 h with e | e
  · exact .inr (List.mem_of_mem_take e)
  · rcases List.mem_cons.1 e with e | e
    · exact .inl e
    · exact .inr (List.mem_of_mem_drop e)
theorem put_rise {nm : List UInt8} {x : Fl} (hx : x.1 = nm) : ∀ {l : List Fl}, RiseF l → atN nm l = none → RiseF (l.take (placeL nm l) ++ x :: l.drop (placeL nm l))
  | [], _, _ => by simp [RiseF, placeL]
  | f :: l, hr, h => by
    have hf := atN_none h f (by simp)
    have h2 := h
    rw [atN_skip hf] at h2
    have ih := put_rise hx (rise_rest hr) (by simpa using h2)
    by_cases hlt : ltL f.1 nm = true
    · rw [placeL, if_pos hlt, List.take_succ_cons, List.drop_succ_cons, List.cons_append]
      refine List.pairwise_cons.2 ⟨fun q hq => ?_, ih⟩
      rcases put_mem hq with rfl | e
      · rw [hx]; exact hlt
      · exact (rise_after hr q e).1
    · rw [placeL, if_neg hlt]
      have hn : ltL nm f.1 = true := by
        rcases ltL_tri f.1 nm with e | e | e
        · exact absurd e hlt
        · exact absurd e hf
        · exact e
      show RiseF (x :: f :: l)
      refine List.pairwise_cons.2 ⟨fun q hq => ?_, hr⟩
      rw [hx]
      rcases List.mem_cons.1 hq with rfl | e
      · exact hn
      · exact ltL_trans hn (rise_after hr q e).1
theorem putF_new {nm : List UInt8} (b : List UInt8) {l : List Fl} (h : atN nm l = none) : putF nm b l = l.take (placeL nm l) ++ (nm, [], b) :: l.drop (placeL nm l) := by
  unfold putF; rw [h]; simp
theorem putF_at {nm : List UInt8} (b : List UInt8) {l : List Fl} (h : atN nm l = none) : (putF nm b l)[placeL nm l]? = some (nm, [], b) := by
  rw [putF_new b h, List.getElem?_append_right (by rw [List.length_take]; omega), List.length_take, Nat.min_eq_left (place_le nm l)]; simp
theorem putF_put {nm : List UInt8} (b : List UInt8) {l : List Fl} (h : atN nm l = none) : putF nm b l = (putF nm [] l).modify (placeL nm l) fun _ => (nm, [], b) := by
  rw [putF_new b h, putF_new [] h]
  apply List.ext_getElem?
  intro j
  have hl := place_le nm l
  rw [List.getElem?_modify]
  rcases Nat.lt_trichotomy j (placeL nm l) with e | e | e
  · rw [List.getElem?_append_left (by rw [List.length_take]; omega), List.getElem?_append_left (by rw [List.length_take]; omega)]
    cases (List.take (placeL nm l) l)[j]? <;> simp <;> omega
  · subst e
    rw [List.getElem?_append_right (by rw [List.length_take]; omega), List.getElem?_append_right (by rw [List.length_take]; omega), List.length_take, Nat.min_eq_left hl]; simp
  · rw [List.getElem?_append_right (by rw [List.length_take]; omega), List.getElem?_append_right (by rw [List.length_take]; omega), List.length_take, Nat.min_eq_left hl]
    obtain ⟨k, rfl⟩ : ∃ k, j = placeL nm l + 1 + k := ⟨j - (placeL nm l + 1), by omega⟩
    rw [show placeL nm l + 1 + k - placeL nm l = k + 1 by omega, List.getElem?_cons_succ, List.getElem?_cons_succ]
    cases (List.drop (placeL nm l) l)[k]? <;> simp <;> omega
theorem putF_len {nm : List UInt8} (b : List UInt8) {l : List Fl} (h : atN nm l = none) : (putF nm b l).length = l.length + 1 := by
  rw [putF_new b h, List.length_append, List.length_cons, List.length_take, List.length_drop]
  have := place_le nm l; omega
theorem mapF_congr {H : Type} {el el' : Fl → DataW H} {l : List Fl} (h : ∀ f ∈ l, el f = el' f) : mapF el l = mapF el' l := by
  unfold mapF
  rw [List.map_congr_left fun f hf => by rw [h f hf]]

section
variable {w w' : World} {r : Nat} {mb mb' : Option Nat} {gm : List UInt8 → Nat} {vm : List UInt8 → Value} {s s' : St}
/-- A file has come. -/
theorem create_end (h : DskM w r mb gm vm s) {nm : List UInt8} (hat : atN nm s.files = none) (hnm : nm.length ≤ 9223372036854775807) {g : Nat} (ho : Only (fun k => k = r ∨ mb = some k) w w') (hg : w.heap.size ≤ g)
    (hbox : Holds w' r 58 (boxC mb' s)) {b n : Nat} (hb : mb' = some b) (hmap : w'.ownsMap Try.prog 9 (ptrR (H := Unit)) b n ((mapF (elP gm) s.files).put (.string nm) (.lit (.int .i64 g))))
    (hmb : ∀ b, mb' = some b → mb = some b ∨ w.heap.size ≤ b) (hfil : FilM w' g (.slice none 0 0) (nm, [], [])) :
    DskM w' r mb' (updN gm nm g) (upd vm nm (.slice none 0 0)) { s with files := putF nm [] s.files } ∧ ∀ k, FootM r mb' (updN gm nm g) (upd vm nm (.slice none 0 0)) (putF nm [] s.files) k → FootM r mb gm vm s.files k ∨ w.heap.size ≤ k := by
  have hmem : ∀ q ∈ putF nm [] s.files, q = (nm, [], []) ∨ (q ∈ s.files ∧ q.1 ≠ nm) := fun q hq => by
    rw [putF_new [] hat] at hq
    rcases put_mem hq with e | e
    · exact .inl e
    · exact .inr ⟨e, atN_none hat q e⟩
  have hu := put_used_eq nm [] s.files
  refine ⟨⟨?_, ?_, ?_, ?_, ?_, ?_, ?_⟩, ?_⟩
  · refine cast (congrArg (Holds _ r 58) ?_) hbox
    unfold boxC
    simp only
    rw [show usedL (putF nm [] s.files) = usedL s.files by rw [hu]; simp]
  · subst hb
    show World.ownsMap _ _ _ _ _ _ _
    have h4 := ownsMap_tight hmap
    have e1 : mapF (elP gm) s.files = mapF (elP (updN gm nm g)) s.files := mapF_congr fun f hf => by unfold elP; rw [updN_other _ _ (atN_none hat f hf)]
    have e2 := (mapF_append (elP (updN gm nm g)) nm [] s.files h.rise).2 hat
    have e3 : elP (updN gm nm g) (nm, [], []) = .lit (.int .i64 g) := by unfold elP; rw [updN_same]
    rw [e3] at e2
    rw [e1, e2, mapF_size] at h4
    exact h4
  · intro q hq
    rcases hmem q hq with rfl | ⟨hq1, hq2⟩
    · rw [updN_same, upd_same]; exact hfil
    · rw [updN_other _ _ hq2, upd_other _ _ hq2]
      refine (h.fil q hq1).only ho (fun e => ?_) fun k hk e => ?_
      · rcases e with e | e
        · exact h.r_ne_g hq1 e.symm
        · exact h.m_ne_g e hq1 rfl
      · rcases e with e | e
        · exact h.r_ne_v hq1 hk e.symm
        · exact h.m_ne_v e hq1 hk rfl
  · intro q hq p hp e
    rcases hmem q hq with rfl | ⟨hq1, hq2⟩ <;> rcases hmem p hp with rfl | ⟨hp1, hp2⟩
    · rfl
    · exfalso
      rw [updN_same, updN_other _ _ hp2] at e
      have := (h.fil p hp1).lt; omega
    · exfalso
      rw [updN_same, updN_other _ _ hq2] at e
      have := (h.fil q hq1).lt; omega
    · rw [updN_other _ _ hq2, updN_other _ _ hp2] at e
      exact h.inj q hq1 p hp1 e
  · intro q hq p hp k hk1 hk2
    rcases hmem q hq with rfl | ⟨hq1, hq2⟩ <;> rcases hmem p hp with rfl | ⟨hp1, hp2⟩
    · rfl
    · rw [upd_same] at hk1; simp [Value.ownBlock] at hk1
    · rw [upd_same] at hk2; simp [Value.ownBlock] at hk2
    · rw [upd_other _ _ hq2] at hk1
      rw [upd_other _ _ hp2] at hk2
      exact h.injv q hq1 p hp1 k hk1 hk2
  · rw [putF_new [] hat]
    exact put_rise (nm := nm) (x := (nm, [], [])) rfl h.rise hat
  · intro q hq
    rcases hmem q hq with rfl | ⟨hq1, _⟩
    · exact hnm
    · exact h.short q hq1
  · intro k hk
    rcases hk with rfl | hk | ⟨q, hq, hk⟩
    · exact .inl (.inl rfl)
    · rcases hmb k hk with e | e
      · exact .inl (.inr (.inl e))
      · exact .inr e
    · rcases hmem q hq with rfl | ⟨hq1, hq2⟩
      · rw [updN_same, upd_same] at hk
        rcases hk with rfl | hk
        · exact .inr hg
        · simp [Value.ownBlock] at hk
      · rw [updN_other _ _ hq2, upd_other _ _ hq2] at hk
        exact .inl (.inr (.inr ⟨q, hq1, hk⟩))
theorem fil_new (w : World) (nm : List UInt8) : FilM (w.alloc (.cells #[.slice none 0 0, .int .i64 0] 74)) w.heap.size (.slice none 0 0) (nm, [], []) :=
  ⟨Holds.new w 74 _, by rw [byC_eq]; exact World.ownsRow_nil _ _ _ _⟩
theorem fil_grown {g b : Nat} {v : Value} {f : Fl} (h : FilM w g v f) (hg : w.grownBy w' (some b)) (h1 : g ≠ b) (h2 : v.ownBlock = none) : FilM w' g v f :=
  ⟨Holds.grown h.box hg (by intro e; injection e with e; exact h1 e), World.ownsRow.kept h.own hg (.inl h2)⟩

theorem eqlSome (b : Nat) (w : World) : (binOp .eql 56 (.map (some b)) (.map none)).run Try.prog w = .ok (.bool false) w := by kernel_rfl
theorem eqlNil (w : World) : (binOp .eql 56 (.map none) (.map none)).run Try.prog w = .ok (.bool true) w := by kernel_rfl
set_option maxRecDepth 100000 in
set_option maxHeartbeats 4000000 in
theorem create_m (h : DskM w r mb gm vm s) (hfit : Fit s) {nm : List UInt8} (hat : atN nm s.files = none) (hnm : nm.length ≤ 9223372036854775807) :
    Calls Try.prog 34 #[.pointer (some ⟨r, 0, none⟩), .string (bs nm)] w fun e w' => ∃ g mb', e = .returned (.pointer (some ⟨g, 0, none⟩)) ∧ w.heap.size ≤ g ∧ Only (fun k => k = r ∨ mb = some k) w w' ∧
      DskM w' r mb' (updN gm nm g) (upd vm nm (.slice none 0 0)) { s with files := putF nm [] s.files } ∧ ∀ k, FootM r mb' (updN gm nm g) (upd vm nm (.slice none 0 0)) (putF nm [] s.files) k → FootM r mb gm vm s.files k ∨ w.heap.size ≤ k := by
  obtain ⟨c0, _, _, _, _, _⟩ := h.cells
  have f0 := h.box.frozen 0
  have Hk := Lib.hid (key_bs hnm)
  have H := Lib.hid h
  have hlen : s.files.length < maxLen := Nat.lt_of_le_of_lt hfit.len (by unfold maxLen; omega)
  cases mb with
  | none =>
    have hfl : s.files = [] := h.map
    have hmm := @run_makeMap Try.prog
    have Hown : Hid ((((w.setCell ⟨r, 0, none⟩ (.map (some w.heap.size))).alloc (.map #[] 0)).alloc (.cells #[.slice none 0 0, .int .i64 0] 74)).ownsMap Try.prog 9 (ptrR (H := Unit)) w.heap.size 0 (mapF (elP gm) s.files)) := Lib.hid (by
      rw [hfl]
      have h1 := World.ownsMap_made (w.setCell ⟨r, 0, none⟩ (.map (some w.heap.size))) Try.prog 9 (ptrR (H := Unit))
      rw [show (w.setCell ⟨r, 0, none⟩ (.map (some w.heap.size))).heap.size = w.heap.size by simp] at h1
      exact World.ownsMap.alloc h1 _)
    have hrl := h.box.lt
    have Hrl := Lib.hid h.box.lt
    have Hat := Lib.hid hat
    have heq := eqlNil
    clear h hat hfl
    go_enter Try.func34, Try.ntmps34
    go_wp2_with (at_mapUpdate; refine wpList_mapUpdate_in _ rfl _ _ _ 56 rfl 9 70 law9 Try.underlying56 ptrR w.heap.size _ _ rfl Hown.out (by unfold maxLen; omega) _ _ _ rfl rfl Hk.out (.lit (.int .i64 ((w.heap.size + 1 : Nat) : Int))) [] rfl ?_; intro w2 hown2 hturn2; have Hown2 := Lib.hid hown2; have Hturn2 := Lib.hid hturn2; clear hown2 hturn2)
    go_ret
    have ho0 : Only (fun k => k = r ∨ none = some k) w (((w.setCell ⟨r, 0, none⟩ (.map (some w.heap.size))).alloc (.map #[] 0)).alloc (.cells #[.slice none 0 0, .int .i64 0] 74)) :=
      ((only_set w r 0 _).mono fun k e => .inl e).trans (Only.of_below (((Below.refl _ _).alloc (Nat.le_refl _) _).alloc (by simp) _) (fun i hi => .inr hi))
    have ho : Only (fun k => k = r ∨ none = some k) w w2 := ho0.then (only_grown Hturn2.out.grown) (fun i hi => .inr (by omega))
    have hrl := Hrl.out
    obtain ⟨h1, h2⟩ := create_end H.out Hat.out hnm ho (Nat.le_succ _) (by
        have hb := (H.out.box.set 0 (.map (some w.heap.size)))
        exact Holds.grown (Holds.alloc (Holds.alloc hb _) _) Hturn2.out.grown (by intro e; injection e with e; omega)) rfl Hown2.out (fun k e => .inr (by injection e with e; omega)) (by
        have := fil_new ((w.setCell ⟨r, 0, none⟩ (.map (some w.heap.size))).alloc (.map #[] 0)) nm
        rw [show ((w.setCell ⟨r, 0, none⟩ (.map (some w.heap.size))).alloc (.map #[] 0)).heap.size = w.heap.size + 1 by simp] at this
        exact fil_grown this Hturn2.out.grown (by omega) rfl)
    exact ⟨_, _, rfl, Nat.le_succ _, ho, h1, h2⟩
  | some b =>
    have hm : w.ownsMap Try.prog 9 (ptrR (H := Unit)) b s.files.length (mapF (elP gm) s.files) := h.map
    have Hown := Lib.hid (World.ownsMap.alloc hm (.cells #[.slice none 0 0, .int .i64 0] 74))
    have Hlen := Lib.hid hlen
    have Hat := Lib.hid hat
    have hrl := h.box.lt
    clear h hat hm hlen
    go_enter Try.func34, Try.ntmps34
    have heq := eqlSome b
    go_wp2_with (at_mapUpdate; refine wpList_mapUpdate_in _ rfl _ _ _ 56 rfl 9 70 law9 Try.underlying56 ptrR b _ _ rfl Hown.out Hlen.out _ _ _ rfl rfl Hk.out (.lit (.int .i64 (w.heap.size : Int))) [] rfl ?_; intro w2 hown2 hturn2; have Hown2 := Lib.hid hown2; have Hturn2 := Lib.hid hturn2; clear hown2 hturn2)
    go_ret
    have hbl : b < w.heap.size := H.out.map.lt rfl
    have ho : Only (fun k => k = r ∨ some b = some k) w w2 := ((Only.of_below ((Below.refl w.heap.size w).alloc (Nat.le_refl _) _) (fun i hi => .inr hi)).trans ((only_grown Hturn2.out.grown).mono fun k e => .inr (by rw [e])))
    obtain ⟨h1, h2⟩ := create_end H.out Hat.out hnm ho (Nat.le_refl _) (by
        have hb := H.out.box
        exact Holds.grown (Holds.alloc hb _) Hturn2.out.grown (by intro e; injection e with e; exact H.out.m_ne_r rfl e.symm)) rfl Hown2.out (fun _ e => .inl e) (fil_grown (fil_new w nm) Hturn2.out.grown (by omega) rfl)
    exact ⟨_, _, rfl, Nat.le_refl _, ho, h1, h2⟩
end
end Go.Proofs.Ytbgfkjafablfiaa
