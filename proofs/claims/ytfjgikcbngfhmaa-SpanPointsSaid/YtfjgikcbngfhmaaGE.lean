/-
  slices.DeleteFunc over spans in a row of the call's own.
-/
import Derived.Test.YtfjgikcbngfhmaaGD
import Derived.Shelf.SlicesE.DeleteFunc
namespace Go.Proofs.Ytfjgikcbngfhmaa
open Go.RowKit Go.Shelf

theorem spC_put : ∀ (l : List Sp) (i : Nat) (s : Sp), ((spC l).set (i * 2) (.string (bs s.1))).set (i * 2 + 1) (.string (bs s.2)) = spC (l.set i s)
  | [], i, s => rfl
  | t :: l, 0, s => rfl
  | t :: l, i + 1, s => by
    rw [List.set_cons_succ, spC_cons, spC_cons, show (i + 1) * 2 = i * 2 + 1 + 1 by omega, show i * 2 + 1 + 1 + 1 = i * 2 + 1 + 1 + 1 from rfl, List.set_cons_succ, List.set_cons_succ, List.set_cons_succ, List.set_cons_succ, spC_put l i s]
theorem spC_put_rest (l : List Sp) (rest : List Value) (i : Nat) (s : Sp) (h : i < l.length) : ((spC l ++ rest).set (i * 2) (.string (bs s.1))).set (i * 2 + 1) (.string (bs s.2)) = spC (l.set i s) ++ rest := by
  rw [List.set_append_left _ _ (by rw [spC_length]; omega), List.set_append_left _ _ (by rw [List.length_set, spC_length]; omega), spC_put]
theorem spC_take : ∀ (l : List Sp) (i : Nat), (spC l).take (i * 2) = spC (l.take i)
  | [], i => by simp [spC]
  | t :: l, 0 => rfl
  | t :: l, i + 1 => by rw [List.take_succ_cons, spC_cons, spC_cons, show (i + 1) * 2 = i * 2 + 1 + 1 by omega, List.take_succ_cons, List.take_succ_cons, spC_take l i]

/-- The deletion under way: i spans stay of the first j. -/
structure DelInv (l : List Sp) (i j : Nat) (L : List Sp) : Prop where
  len : L.length = l.length
  lt : i < j
  le : j ≤ l.length
  kept : L.take i = (l.take j).filter validL
  left : L.drop j = l.drop j
theorem DelInv.start {l : List Sp} {k : Nat} {s : Sp} (hk : l[k]? = some s) (hs : validL s = false) (h : ∀ j t, j < k → l[j]? = some t → validL t = true) : DelInv l k (k + 1) l where
  len := rfl
  lt := by omega
  le := by obtain ⟨h, _⟩ := List.getElem?_eq_some_iff.1 hk; omega
  kept := by
    obtain ⟨hl, e⟩ := List.getElem?_eq_some_iff.1 hk
    rw [List.take_add_one, hk, List.filter_append, List.filter_eq_self.2]
    · simp [hs]
    · intro a ha
      obtain ⟨j, hj, e⟩ := List.mem_take_iff_getElem.1 ha
      exact h j a (by omega) (by rw [← e]; exact List.getElem?_eq_getElem _)
  left := rfl
theorem DelInv.at {l L : List Sp} {i j : Nat} {s : Sp} (h : DelInv l i j L) (hs : l[j]? = some s) : L[j]? = some s := by
  have := congrArg (fun x => x[0]?) h.left
  simpa [List.getElem?_drop, hs] using this
theorem DelInv.keep {l L : List Sp} {i j : Nat} {s : Sp} (h : DelInv l i j L) (hj : l[j]? = some s) (hs : validL s = true) : DelInv l (i + 1) (j + 1) (L.set i s) where
  len := by rw [List.length_set, h.len]
  lt := by have := h.lt; omega
  le := by obtain ⟨h, _⟩ := List.getElem?_eq_some_iff.1 hj; omega
  kept := by
    have h1 := h.lt
    have h2 := h.le
    have h3 := h.len
    rw [List.take_add_one, List.take_add_one, hj, List.filter_append, ← h.kept, List.take_set_of_le (by omega), List.getElem?_set_self (by omega)]
    simp [hs]
  left := by
    have h1 := h.lt
    rw [List.drop_set_of_lt (by omega), ← List.drop_drop, h.left, List.drop_drop]
theorem DelInv.skip {l L : List Sp} {i j : Nat} {s : Sp} (h : DelInv l i j L) (hj : l[j]? = some s) (hs : validL s = false) : DelInv l i (j + 1) L where
  len := h.len
  lt := by have := h.lt; omega
  le := by obtain ⟨h, _⟩ := List.getElem?_eq_some_iff.1 hj; omega
  kept := by
    rw [List.take_add_one, hj, List.filter_append, ← h.kept]
    simp [hs]
  left := by rw [← List.drop_drop, h.left, List.drop_drop]
theorem DelInv.done {l L : List Sp} {i : Nat} (h : DelInv l i l.length L) : L.take i = l.filter validL := by
  rw [h.kept, List.take_of_length_le (Nat.le_refl _)]
theorem DelInv.count {l L : List Sp} {i : Nat} (h : DelInv l i l.length L) : (l.filter validL).length = i := by
  rw [← h.done, List.length_take]
  have := h.lt; have := h.len; omega

/-- The row's end made empty. -/
theorem clear_row (w : World) (g i n c : Nat) (l : List Sp) (rest : List Value) (h : Holds w g 23 (spC l ++ rest)) (hl : l.length = n) (hi : i < n) : ∃ w' rest',
    (∀ ty, (Builtin.clear_ #[26] ty #[.slice (some ⟨g, i * 2, none⟩) (n - i) c]).run Try.prog w = .ok (.tuple #[]) w') ∧ Holds w' g 23 (spC (l.take i) ++ rest') ∧ ∀ B, B ≤ g → Below B w w' := by
  obtain ⟨zs, hzs⟩ : ∃ zs, zs = (Builtin.zeroCells (Value.agg #[.string { data := #[] }, .string { data := #[] }]).cells (n - i)).toList := ⟨_, rfl⟩
  have hzl : zs.length = (n - i) * 2 := by rw [hzs, Array.length_toList, size_zeroCells]; rfl
  have hone : ∀ v ∈ zs, v.oneCell' = true := by
    intro v hv
    rw [hzs] at hv
    simp only [Builtin.zeroCells, Array.toList_map, List.mem_map] at hv
    obtain ⟨k, _, rfl⟩ := hv
    simp only [Value.cells]
    have : k % 2 = 0 ∨ k % 2 = 1 := by omega
    rcases this with e | e <;> simp [e, Value.oneCell']
  have hst := run_storeCells_at Try.prog g (i * 2) 23 zs 0 (spC l ++ rest).toArray w h (by simp [hzl, spC_length]; omega) hone
  simp only [Nat.add_zero] at hst
  refine ⟨w.setRow g ((spC l ++ rest).take (i * 2) ++ zs ++ (spC l ++ rest).drop (i * 2 + zs.length)).toArray, zs ++ (spC l ++ rest).drop (i * 2 + zs.length), ?_, ?_, ?_⟩
  · intro ty
    obtain ⟨m, hm⟩ : ∃ m, n - i = m + 1 := ⟨n - i - 1, by omega⟩
    rw [hm] at hzs ⊢
    simp [Builtin.clear_, run_underlying Try.underlying26, ← hzs, hst]
  · have := Holds.row h ((spC l ++ rest).take (i * 2) ++ zs ++ (spC l ++ rest).drop (i * 2 + zs.length))
    rw [List.take_append_of_le_length (by rw [spC_length]; omega), spC_take, List.append_assoc] at this
    rw [List.take_append_of_le_length (by rw [spC_length]; omega), spC_take, List.append_assoc]
    exact this
  · exact fun B hB => ⟨rfl, rfl, rfl, by simp, fun k hk => setRow_other w g k _ (by omega)⟩

/-- What the deletion leaves. -/
def DelRet (B g cap : Nat) (l : List Sp) (w : World) (e : Ending) (w' : World) : Prop :=
  e = .returned (.slice (some ⟨g, 0, none⟩) (l.filter validL).length cap) ∧ (∃ rest', Holds w' g 23 (spC (l.filter validL) ++ rest')) ∧ Below B w w'

set_option maxRecDepth 100000 in
set_option maxHeartbeats 4000000 in
theorem delete_any (l : List Sp) (rest : List Value) (g n cap B : Nat) (w : World) (hn : l.length = n) (hr : Holds w g 23 (spC l ++ rest)) (hB : B ≤ g) (hn2 : n ≤ 1000) (hcap : n ≤ cap) :
    Calls Try.prog 31 #[.slice (some ⟨g, 0, none⟩) n cap, .func (.func 33) #[] #[]] w (DelRet B g cap l w) := by
  have hIX := AnyQ.slices_IndexFunc ixLays 2 (by intro w; kernel_rfl) (by intro w; kernel_rfl) encS (fun _ => rfl) (fun s => !validL s) 33 #[] wrong_enters g 0 n cap l w (wrong_below w) (by omega) (by omega) hr.lt (by
    intro j hj i v hv
    rw [Nat.zero_add]
    refine Holds.cell hr ?_
    obtain ⟨c0, c1⟩ := spC_at l j l[j]! (by rw [getElem!_pos l j hj]; exact List.getElem?_eq_getElem hj)
    have hlt : i < 2 := by obtain ⟨h, _⟩ := List.getElem?_eq_some_iff.1 hv; simpa [encS] using h
    have : i = 0 ∨ i = 1 := by omega
    rw [List.getElem?_append_left (by rw [spC_length]; omega)]
    rcases this with rfl | rfl
    · rw [Nat.add_zero, c0]; simpa [encS] using hv
    · rw [c1]; simpa [encS] using hv)
  rw [List.take_of_length_le (by omega)] at hIX
  change Calls Try.prog 42 _ _ _ at hIX
  have Hn := Lib.hid hn
  clear hn
  rcases idxByFrom_spec (fun _ y : Sp => !validL y) default l 0 with ⟨e1, hall⟩ | ⟨k0, hk0, e1, ht, hall⟩
  · have e2 : Lib.idxBy (fun _ y : Sp => !validL y) l default = -1 := e1
    rw [e2] at hIX
    have hf : l.filter validL = l := List.filter_eq_self.2 fun a ha => by
      obtain ⟨j, hj, e⟩ := List.getElem_of_mem ha
      have := hall j hj
      rw [getElem!_pos l j hj, e] at this
      simpa using this
    have Hf := Lib.hid hf
    have HX := Lib.hid hIX
    have Hr := Lib.hid hr
    have Hlt := Lib.hid (show g < w.heap.size from hr.lt)
    clear hIX hr hall e1 e2 hf
    go_enter Try.func31, Try.ntmps31
    go_wp2_with (go_at_call 42; refine HX.out.mono ?_; rintro e w1 ⟨rfl, hb1⟩)
    go_ret
    unfold DelRet
    rw [Hf.out, Hn.out]
    exact ⟨rfl, ⟨rest, Hr.out.below hb1 Hlt.out⟩, hb1.mono (by have := Hlt.out; omega)⟩
  · have e2 : Lib.idxBy (fun _ y : Sp => !validL y) l default = (k0 : Int) := by unfold Lib.idxBy; rw [e1]; simp
    rw [e2] at hIX
    have hk0' : l[k0]? = some l[k0] := List.getElem?_eq_getElem hk0
    have hs0 : validL l[k0] = false := by
      have : (!validL l[k0]!) = true := ht
      rw [getElem!_pos l k0 hk0] at this
      simpa using this
    have HI : Hid (DelInv l k0 (k0 + 1) l) := Lib.hid (DelInv.start hk0' hs0 fun j t hj hjt => by
      have : (!validL l[j]!) = false := hall j hj
      obtain ⟨hl, e⟩ := List.getElem?_eq_some_iff.1 hjt
      rw [getElem!_pos l j hl, e] at this
      simpa using this)
    have HX := Lib.hid hIX
    have Hr := Lib.hid hr
    have Hlt := Lib.hid (show g < w.heap.size from hr.lt)
    have hk1 : k0 < n := by rw [← Hn.out]; exact hk0
    have hne1 : ((k0 : Int) == -1) = false := beq_eq_false_iff_ne.2 (by omega)
    clear hIX hr hall e1 e2 ht hk0 hk0' hs0
    go_enter Try.func31, Try.ntmps31
    go_wp2_with (go_at_call 42; refine HX.out.mono ?_; rintro e w1 ⟨rfl, hb1⟩)
    have Hr1 := Lib.hid (Hr.out.below hb1 Hlt.out)
    have Hb1 := Lib.hid (hb1.mono (show B ≤ w.heap.size by have := Hlt.out; omega))
    clear hb1 HX
    go_loopw [5, 6, 7] (fun iv jv _ wr => ∃ i j : Nat, ∃ L : List Sp, iv = .int .i64 i ∧ jv = .int .i64 j ∧ i < j ∧ j ≤ n ∧ L.length = n ∧ DelInv l i j L ∧ Holds wr g 23 (spC L ++ rest) ∧ Below B w wr) (fun _ jv _ _ => n - (intOf jv).toNat)
    case atStart => exact ⟨k0, k0 + 1, l, rfl, by go_num, by omega, by omega, Hn.out, HI.out, Hr1.out, Hb1.out⟩
    case round =>
      clear HI Hr1 Hb1 Hr
      obtain ⟨i, j, L, rfl, rfl, hij, hjn, hL, hinv, hrow, hbel⟩ := hrel
      have Hinv := Lib.hid hinv
      have HL := Lib.hid hL
      have Hrow := Lib.hid hrow
      have Hb := Lib.hid hbel
      clear hinv hL hrow hbel
      by_cases hlt : j < n
      · have hltz : (j : Int) < (n : Int) := by omega
        obtain ⟨s, hs⟩ : ∃ s, l[j]? = some s := ⟨_, List.getElem?_eq_getElem (by rw [Hn.out]; exact hlt)⟩
        have hs' := Hinv.out.at hs
        have Hs := Lib.hid hs
        obtain ⟨c0, c1⟩ := spC_at L j s hs'
        have d0 := Holds.cell Hrow.out (i := j * 2) (v := .string (bs s.1)) (by rw [List.getElem?_append_left (by rw [spC_length, HL.out]; omega)]; exact c0)
        have d1 := Holds.cell Hrow.out (i := j * 2 + 1) (v := .string (bs s.2)) (by rw [List.getElem?_append_left (by rw [spC_length, HL.out]; omega)]; exact c1)
        have HW := Lib.hid (fun W => wrong_any s W)
        have Hput := Lib.hid (spC_put_rest L rest i s (by rw [HL.out]; omega))
        have Hgl := Lib.hid (show g < wr.heap.size from Hrow.out.lt)
        have Hkeep : Hid (validL s = true → DelInv l (i + 1) (j + 1) (L.set i s)) := Lib.hid fun hv => Hinv.out.keep Hs.out hv
        have Hskip : Hid (validL s = false → DelInv l i (j + 1) L) := Lib.hid fun hv => Hinv.out.skip Hs.out hv
        clear hs hs' c0 c1 Hs
        obtain ⟨a, b⟩ := s
        unfold spV at HW
        simp only at d0 d1 Hput
        have HA := Lib.hid ((Below.refl wr.heap.size wr).alloc (Nat.le_refl _) (.cells #[.string (bs a), .string (bs b)] 23))
        have hcz : ∀ w2 : World, Below (wr.heap.size + 1) (wr.alloc (.cells #[.string (bs a), .string (bs b)] 23)) w2 → w2.cell? ⟨wr.heap.size, 0, none⟩ = some (.string (bs a)) ∧ w2.cell? ⟨wr.heap.size, 1, none⟩ = some (.string (bs b)) := by
          intro w2 h
          refine ⟨?_, ?_⟩
          · rw [h.cell (by simp)]; simp
          · rw [h.cell (by simp)]; simp
        have HZ := Lib.hid hcz
        clear hcz
        have hi1 : i < n := by omega
        have Hi1 := Lib.hid hi1
        go_wp2_with fail
        refine (HW.out _).mono ?_
        rintro e w2 ⟨rfl, hb2⟩
        obtain ⟨e0, e1⟩ := HZ.out w2 (by simpa using hb2)
        have Hb2 := Lib.hid (HA.out.trans (hb2.mono HA.out.size))
        have Hrow2 := Lib.hid (Hrow.out.below Hb2.out Hgl.out)
        have Hbb := Lib.hid (Hb.out.trans (Hb2.out.mono (show B ≤ wr.heap.size by have := Hgl.out; omega)))
        clear hb2 HZ HA d0 d1
        cases hv : validL (a, b) with
        | false =>
          have Hsk := Lib.hid (Hskip.out hv)
          go_wp2
          go_roundw
          case rel => exact ⟨i, j + 1, L, rfl, by go_num, by omega, by omega, HL.out, Hsk.out, Hrow2.out, Hbb.out⟩
          case measure => simp [intOf]; omega
        | true =>
          have Hke := Lib.hid (Hkeep.out hv)
          have Hlen : Hid ((L.set i (a, b)).length = n) := Lib.hid (by rw [List.length_set]; exact HL.out)
          have Hset : Hid (Holds ((w2.setCell ⟨g, i * 2, none⟩ (.string (bs a))).setCell ⟨g, i * 2 + 1, none⟩ (.string (bs b))) g 23 (spC (L.set i (a, b)) ++ rest)) := Lib.hid (by
            have := (Hrow2.out.set (i * 2) (.string (bs a))).set (i * 2 + 1) (.string (bs b))
            rwa [Hput.out] at this)
          have f0 := Hrow2.out.frozen (i * 2)
          have f1 := Hrow2.out.frozen (i * 2 + 1)
          have hx0 : ∃ v, w2.cell? ⟨g, i * 2, none⟩ = some v := ⟨_, Holds.cell Hrow2.out (List.getElem?_eq_getElem (by rw [List.length_append, spC_length, HL.out]; omega))⟩
          have hx1 : ∃ v, w2.cell? ⟨g, i * 2 + 1, none⟩ = some v := ⟨_, Holds.cell Hrow2.out (List.getElem?_eq_getElem (by rw [List.length_append, spC_length, HL.out]; omega))⟩
          obtain ⟨x0, g0⟩ := hx0
          obtain ⟨x1, g1⟩ := hx1
          have Hbs : Hid (Below B w ((w2.setCell ⟨g, i * 2, none⟩ (.string (bs a))).setCell ⟨g, i * 2 + 1, none⟩ (.string (bs b)))) := Lib.hid ((Hbb.out.setCell (p := ⟨g, i * 2, none⟩) hB _).setCell (p := ⟨g, i * 2 + 1, none⟩) hB _)
          go_wp2
          go_roundw
          case rel => exact ⟨i + 1, j + 1, L.set i (a, b), by go_num, by go_num, by omega, by omega, Hlen.out, Hke.out, Hset.out, Hbs.out⟩
          case measure => simp [intOf]; omega
      · have hltz : ¬ (j : Int) < (n : Int) := by omega
        obtain rfl : j = n := by omega
        have Hd : Hid (DelInv l i l.length L) := Lib.hid (by rw [Hn.out]; exact Hinv.out)
        obtain ⟨w3, rest', hcl, hrow3, hb3⟩ := clear_row wr g i j (cap - i) L rest Hrow.out HL.out hij
        have Hrow3 : Hid (Holds w3 g 23 (spC (l.filter validL) ++ rest')) := Lib.hid (by rw [← Hd.out.done]; exact hrow3)
        have Hb3 := Lib.hid (Hb.out.trans (hb3 B hB))
        clear hrow3 hb3
        go_wp2
        go_ret
        unfold DelRet
        rw [Hd.out.count]
        exact ⟨rfl, ⟨rest', Hrow3.out⟩, Hb3.out⟩
end Go.Proofs.Ytfjgikcbngfhmaa
