/-
  slices.IndexFunc and slices.DeleteFunc over the names of a disk, with the closure of files; the contract of shot.files.
-/
import Derived.Test.YtmgbmphheagdmaaGreatDoorMC
import Derived.Test.YtmgbmphheagdmaaGreatDoorDL
namespace Go.Proofs.YtmgbmphheagdmaaGreatDoor
open Go.RowKit Go.Shelf

def keepS (x : List UInt8) : Bool := decide (FormS x)
/-- Names as they lie in a block. -/
theorem strC_set (l : List (List UInt8)) (i : Nat) (s : List UInt8) : (strC l).set i (.string (bs s)) = strC (l.set i s) := by
  unfold strC; rw [List.map_set]
theorem strC_take (l : List (List UInt8)) (i : Nat) : (strC l).take i = strC (l.take i) := by unfold strC; rw [List.map_take]
/-- The deletion under way: i names stay of the first j. -/
structure DelInv (l : List (List UInt8)) (i j : Nat) (L : List (List UInt8)) : Prop where
  len : L.length = l.length
  lt : i < j
  le : j ≤ l.length
  kept : L.take i = (l.take j).filter keepS
  left : L.drop j = l.drop j
theorem DelInv.start {l : List (List UInt8)} {k : Nat} {s : List UInt8} (hk : l[k]? = some s) (hs : keepS s = false) (h : ∀ j t, j < k → l[j]? = some t → keepS t = true) : DelInv l k (k + 1) l where
  len := rfl
  lt := by omega
  le := by obtain ⟨h, _⟩ := List.getElem?_eq_some_iff.1 hk; omega
  kept := by
    obtain ⟨hl, e⟩ := List.getElem?_eq_some_iff.1 hk
    rw [List.take_add_one, hk, List.filter_append, List.filter_eq_self.2]
    · simp [hs]
    · intro a ha
      obtain ⟨j, hj, e⟩ := List.mem_take_iff_getElem.1 ha
      exact h j a (by omega) (by rw [← e]; exact List.getElem?_eq_getElem _)
  left := rfl
theorem DelInv.at {l L : List (List UInt8)} {i j : Nat} {s : List UInt8} (h : DelInv l i j L) (hs : l[j]? = some s) : L[j]? = some s := by
  have := congrArg (fun x => x[0]?) h.left
  simpa [List.getElem?_drop, hs] using this
theorem DelInv.keep {l L : List (List UInt8)} {i j : Nat} {s : List UInt8} (h : DelInv l i j L) (hj : l[j]? = some s) (hs : keepS s = true) : DelInv l (i + 1) (j + 1) (L.set i s) where
  len := by rw [List.length_set, h.len]
  lt := by have := h.lt; omega
  le := by obtain ⟨h, _⟩ := List.getElem?_eq_some_iff.1 hj; omega
  kept := by
    have h1 := h.lt
    have h2 := h.le
    have h3 := h.len
    rw [List.take_add_one, List.take_add_one, hj, List.filter_append, ← h.kept, List.take_set_of_le (by omega), List.getElem?_set_self (by omega)]
    simp [hs]
  left := by
    have h1 := h.lt
    rw [List.drop_set_of_lt (by omega), ← List.drop_drop, h.left, List.drop_drop]
theorem DelInv.skip {l L : List (List UInt8)} {i j : Nat} {s : List UInt8} (h : DelInv l i j L) (hj : l[j]? = some s) (hs : keepS s = false) : DelInv l i (j + 1) L where
  len := h.len
  lt := by have := h.lt; omega
  le := by obtain ⟨h, _⟩ := List.getElem?_eq_some_iff.1 hj; omega
  kept := by
    rw [List.take_add_one, hj, List.filter_append, ← h.kept]
    simp [hs]
  left := by rw [← List.drop_drop, h.left, List.drop_drop]
theorem DelInv.done {l L : List (List UInt8)} {i : Nat} (h : DelInv l i l.length L) : L.take i = l.filter keepS := by
  rw [h.kept, List.take_of_length_le (Nat.le_refl _)]
theorem DelInv.count {l L : List (List UInt8)} {i : Nat} (h : DelInv l i l.length L) : (l.filter keepS).length = i := by
  rw [← h.done, List.length_take]
  have := h.lt; have := h.len; omega

/-- What IndexFunc tells: the first name that goes. -/
def IdxRet (l : List (List UInt8)) (w : World) (e : Ending) (w' : World) : Prop :=
  ((e = .returned (.int .i64 (-1)) ∧ ∀ x ∈ l, keepS x = true) ∨ (∃ (k : Nat) (x : List UInt8), l[k]? = some x ∧ keepS x = false ∧ e = .returned (.int .i64 (k : Int)) ∧ ∀ j t, j < k → l[j]? = some t → keepS t = true)) ∧ Below w.heap.size w w'

set_option maxRecDepth 100000 in
set_option maxHeartbeats 4000000 in
theorem index_any (l : List (List UInt8)) (rest : List Value) (g n cap : Nat) (w : World) (hn : l.length = n) (hr : Holds w g 9 (strC l ++ rest)) (hx : ∀ x ∈ l, x.length ≤ 9223372036854775807) (hn2 : n ≤ 1000000000) :
    Calls Tryz.prog 95 #[.slice (some ⟨g, 0, none⟩) n cap, .func (.func 70) #[] #[]] w (IdxRet l w) := by
  have Hn := Lib.hid hn
  have Hr := Lib.hid hr
  have Hx := Lib.hid hx
  have Hlt := Lib.hid (show g < w.heap.size from hr.lt)
  clear hn hr hx
  go_enter Tryz.func95, Tryz.ntmps95
  go_wp2
  go_loopw [5, 8] (fun _ iv wr => ∃ i : Nat, i ≤ n ∧ iv = .int .i64 i ∧ (∀ j t, j < i → l[j]? = some t → keepS t = true) ∧ Below w.heap.size w wr) (fun _ iv _ => n - (intOf iv).toNat)
  case atStart => exact ⟨0, Nat.zero_le _, rfl, fun j t h => absurd h (Nat.not_lt_zero _), Below.refl _ _⟩
  case round =>
    obtain ⟨i, hi, rfl, hal, hb⟩ := hrel
    have Hal := Lib.hid hal
    have Hb := Lib.hid hb
    clear hal hb
    by_cases hlt : i < n
    · have hltz : (i : Int) < (n : Int) := by omega
      obtain ⟨s, hs⟩ : ∃ s, l[i]? = some s := ⟨_, List.getElem?_eq_getElem (by rw [Hn.out]; exact hlt)⟩
      have c0 := Holds.cell (Hr.out.below Hb.out Hlt.out) (i := i) (v := .string (bs s)) (by rw [List.getElem?_append_left (by rw [strC_length, Hn.out]; exact hlt)]; exact strC_at l i s hs)
      have HW := Lib.hid (fun W => other_any (bs s) W (by rw [bs_size]; exact Hx.out s (List.mem_of_getElem? hs)))
      rw [bl_bs] at HW
      have Hs := Lib.hid hs
      clear hs
      obtain ⟨b, hbb⟩ : ∃ b, b = decide (FormS s) := ⟨_, rfl⟩
      rw [← hbb] at HW
      have Hbb : Hid (keepS s = b) := Lib.hid hbb.symm
      clear hbb
      generalize bs s = t at *
      cases b with
      | true =>
        have Hnx : Hid (∀ j t, j < i + 1 → l[j]? = some t → keepS t = true) := Lib.hid (fun j t hj ht => by
          rcases Nat.lt_or_ge j i with h1 | h1
          · exact Hal.out j t h1 ht
          · obtain rfl : j = i := by omega
            have e := ht.symm.trans Hs.out
            injection e with e
            rw [e]; exact Hbb.out)
        go_wp2_with fail
        refine (HW.out _).mono ?_
        rintro e w2 ⟨rfl, hb2⟩
        have B2 := Lib.hid (Hb.out.trans (hb2.mono Hb.out.size))
        clear hb2 c0
        go_wp2
        go_roundw
        case rel => exact ⟨i + 1, by omega, by go_num, Hnx.out, B2.out⟩
        case measure => simp [intOf]; omega
      | false =>
        go_wp2_with fail
        refine (HW.out _).mono ?_
        rintro e w2 ⟨rfl, hb2⟩
        have B2 := Lib.hid (Hb.out.trans (hb2.mono Hb.out.size))
        clear hb2 c0
        go_wp2
        go_ret
        exact ⟨.inr ⟨i, s, Hs.out, Hbb.out, rfl, Hal.out⟩, B2.out⟩
    · obtain rfl : i = n := by omega
      have hltz : ¬ (i : Int) < (i : Int) := by omega
      have Hall : Hid (∀ x ∈ l, keepS x = true) := Lib.hid (fun x hx => by
        obtain ⟨j, hj⟩ := List.mem_iff_getElem?.1 hx
        exact Hal.out j x (by have := (List.getElem?_eq_some_iff.1 hj).1; rw [Hn.out] at this; exact this) hj)
      go_wp2
      go_ret
      exact ⟨.inl ⟨rfl, Hall.out⟩, Hb.out⟩

set_option maxRecDepth 100000 in
/-- The row's end made empty. -/
theorem clear_row (w : World) (g i n c : Nat) (l : List (List UInt8)) (rest : List Value) (h : Holds w g 9 (strC l ++ rest)) (hl : l.length = n) (hi : i < n) : ∃ w' rest',
    (∀ ty, (Builtin.clear_ #[55] ty #[.slice (some ⟨g, i, none⟩) (n - i) c]).run Tryz.prog w = .ok (.tuple #[]) w') ∧ Holds w' g 9 (strC (l.take i) ++ rest') ∧ ∀ B, B ≤ g → Below B w w' := by
  obtain ⟨zs, hzs⟩ : ∃ zs, zs = (Builtin.zeroCells (Value.string { data := #[] }).cells (n - i)).toList := ⟨_, rfl⟩
  have hzl : zs.length = n - i := by rw [hzs, Array.length_toList, size_zeroCells]; exact Nat.mul_one _
  have hone : ∀ v ∈ zs, v.oneCell' = true := by
    intro v hv
    rw [hzs] at hv
    simp only [Builtin.zeroCells, Array.toList_map, List.mem_map] at hv
    obtain ⟨k, _, rfl⟩ := hv
    simp [Value.cells, Value.oneCell', Nat.mod_one]
  have hst := run_storeCells_at Tryz.prog g i 9 zs 0 (strC l ++ rest).toArray w h (by simp [hzl, strC_length]; omega) hone
  simp only [Nat.add_zero] at hst
  refine ⟨w.setRow g ((strC l ++ rest).take i ++ zs ++ (strC l ++ rest).drop (i + zs.length)).toArray, zs ++ (strC l ++ rest).drop (i + zs.length), ?_, ?_, ?_⟩
  · intro ty
    obtain ⟨m, hm⟩ : ∃ m, n - i = m + 1 := ⟨n - i - 1, by omega⟩
    rw [hm] at hzs ⊢
    simp [Builtin.clear_, run_underlying Tryz.underlying55, ← hzs, hst]
  · have := Holds.row h ((strC l ++ rest).take i ++ zs ++ (strC l ++ rest).drop (i + zs.length))
    rw [List.take_append_of_le_length (by rw [strC_length]; omega), strC_take, List.append_assoc] at this
    rw [List.take_append_of_le_length (by rw [strC_length]; omega), strC_take, List.append_assoc]
    exact this
  · exact fun B hB => ⟨rfl, rfl, rfl, by simp, fun k hk => setRow_other w g k _ (by omega)⟩

/-- What the deletion leaves. -/
def DelRet (B g cap : Nat) (l : List (List UInt8)) (w : World) (e : Ending) (w' : World) : Prop :=
  e = .returned (.slice (some ⟨g, 0, none⟩) (l.filter keepS).length cap) ∧ (∃ rest', Holds w' g 9 (strC (l.filter keepS) ++ rest')) ∧ Below B w w'

set_option maxRecDepth 100000 in
set_option maxHeartbeats 4000000 in
theorem delete_any (l : List (List UInt8)) (rest : List Value) (g n cap B : Nat) (w : World) (hn : l.length = n) (hr : Holds w g 9 (strC l ++ rest)) (hx : ∀ x ∈ l, x.length ≤ 9223372036854775807) (hB : B ≤ g) (hn2 : n ≤ 1000000000) (hcap : n ≤ cap) :
    Calls Tryz.prog 69 #[.slice (some ⟨g, 0, none⟩) n cap, .func (.func 70) #[] #[]] w (DelRet B g cap l w) := by
  have HX := Lib.hid (index_any l rest g n cap w hn hr hx hn2)
  have Hn := Lib.hid hn
  have Hr := Lib.hid hr
  have Hx := Lib.hid hx
  have Hlt := Lib.hid (show g < w.heap.size from hr.lt)
  clear hn hr hx
  go_enter Tryz.func69, Tryz.ntmps69
  go_wp2_with fail
  refine HX.out.mono ?_
  rintro e w1 ⟨hcs, hb1⟩
  have Hr1 := Lib.hid (Hr.out.below hb1 Hlt.out)
  have Hb1 := Lib.hid (hb1.mono (show B ≤ w.heap.size by have := Hlt.out; omega))
  clear hb1 HX
  rcases hcs with ⟨rfl, hall⟩ | ⟨k0, s0, hk0, hs0, rfl, hal⟩
  · have Hf : Hid (l.filter keepS = l) := Lib.hid (List.filter_eq_self.2 hall)
    clear hall
    go_wp2
    go_ret
    unfold DelRet
    rw [Hf.out, Hn.out]
    exact ⟨rfl, ⟨rest, Hr1.out⟩, Hb1.out⟩
  · have HI := Lib.hid (DelInv.start hk0 hs0 hal)
    have hk1 : k0 < n := by rw [← Hn.out]; exact (List.getElem?_eq_some_iff.1 hk0).1
    have hne1 : ((k0 : Int) == -1) = false := beq_eq_false_iff_ne.2 (by omega)
    clear hk0 hs0 hal
    go_wp2
    go_loopw [5, 6, 7] (fun iv jv _ wr => ∃ i j : Nat, ∃ L : List (List UInt8), iv = .int .i64 i ∧ jv = .int .i64 j ∧ i < j ∧ j ≤ n ∧ L.length = n ∧ DelInv l i j L ∧ Holds wr g 9 (strC L ++ rest) ∧ Below B w wr) (fun _ jv _ _ => n - (intOf jv).toNat)
    case atStart => exact ⟨k0, k0 + 1, l, rfl, by go_num, by omega, by omega, Hn.out, HI.out, Hr1.out, Hb1.out⟩
    case round =>
      clear HI Hr1 Hb1 Hr
      obtain ⟨i, j, L, rfl, rfl, hij, hjn, hL, hinv, hrow, hbel⟩ := hrel
      have Hinv := Lib.hid hinv
      have HL := Lib.hid hL
      have Hrow := Lib.hid hrow
      have Hb := Lib.hid hbel
      clear hinv hL hrow hbel
      by_cases hlt : j < n
      · have hltz : (j : Int) < (n : Int) := by omega
        obtain ⟨s, hs⟩ : ∃ s, l[j]? = some s := ⟨_, List.getElem?_eq_getElem (by rw [Hn.out]; exact hlt)⟩
        have hs' := Hinv.out.at hs
        have d0 := Holds.cell Hrow.out (i := j) (v := .string (bs s)) (by rw [List.getElem?_append_left (by rw [strC_length, HL.out]; omega)]; exact strC_at L j s hs')
        have HW := Lib.hid (fun W => other_any (bs s) W (by rw [bs_size]; exact Hx.out s (List.mem_of_getElem? hs)))
        rw [bl_bs] at HW
        have Hput : Hid ((strC L ++ rest).set i (.string (bs s)) = strC (L.set i s) ++ rest) := Lib.hid (by rw [List.set_append_left _ _ (by rw [strC_length, HL.out]; omega), strC_set])
        have Hgl := Lib.hid (show g < wr.heap.size from Hrow.out.lt)
        have Hkeep : Hid (keepS s = true → DelInv l (i + 1) (j + 1) (L.set i s)) := Lib.hid fun hv => Hinv.out.keep hs hv
        have Hskip : Hid (keepS s = false → DelInv l i (j + 1) L) := Lib.hid fun hv => Hinv.out.skip hs hv
        clear hs hs'
        have hi1 : i < n := by omega
        obtain ⟨bb, hbb⟩ : ∃ b, b = decide (FormS s) := ⟨_, rfl⟩
        rw [← hbb] at HW
        have Hbb : Hid (keepS s = bb) := Lib.hid hbb.symm
        clear hbb
        generalize hts : bs s = t at *
        clear hts
        cases bb with
        | false =>
          have Hsk := Lib.hid (Hskip.out Hbb.out)
          go_wp2_with fail
          refine (HW.out _).mono ?_
          rintro e w2 ⟨rfl, hb2⟩
          have Hrow2 := Lib.hid (Hrow.out.below hb2 Hgl.out)
          have Hbb2 := Lib.hid (Hb.out.trans (hb2.mono (show B ≤ wr.heap.size by have := Hgl.out; omega)))
          clear hb2 d0
          go_wp2
          go_roundw
          case rel => exact ⟨i, j + 1, L, rfl, by go_num, by omega, by omega, HL.out, Hsk.out, Hrow2.out, Hbb2.out⟩
          case measure => simp [intOf]; omega
        | true =>
          have Hke := Lib.hid (Hkeep.out Hbb.out)
          have Hlen : Hid ((L.set i s).length = n) := Lib.hid (by rw [List.length_set]; exact HL.out)
          go_wp2_with fail
          refine (HW.out _).mono ?_
          rintro e w2 ⟨rfl, hb2⟩
          have Hrow2 := Lib.hid (Hrow.out.below hb2 Hgl.out)
          have Hbb2 := Lib.hid (Hb.out.trans (hb2.mono (show B ≤ wr.heap.size by have := Hgl.out; omega)))
          clear hb2 d0
          have Hset : Hid (Holds (w2.setCell ⟨g, i, none⟩ (.string t)) g 9 (strC (L.set i s) ++ rest)) := Lib.hid (by
            have := Hrow2.out.set i (.string t)
            rwa [Hput.out] at this)
          have f0 := Hrow2.out.frozen i
          have hx0 : ∃ v, w2.cell? ⟨g, i, none⟩ = some v := ⟨_, Holds.cell Hrow2.out (List.getElem?_eq_getElem (by rw [List.length_append, strC_length, HL.out]; omega))⟩
          obtain ⟨x0, g0⟩ := hx0
          have Hbs : Hid (Below B w (w2.setCell ⟨g, i, none⟩ (.string t))) := Lib.hid (Hbb2.out.setCell (p := ⟨g, i, none⟩) hB _)
          go_wp2
          go_roundw
          case rel => exact ⟨i + 1, j + 1, L.set i s, by go_num, by go_num, by omega, by omega, Hlen.out, Hke.out, Hset.out, Hbs.out⟩
          case measure => simp [intOf]; omega
      · have hltz : ¬ (j : Int) < (n : Int) := by omega
        obtain rfl : j = n := by omega
        have Hd : Hid (DelInv l i l.length L) := Lib.hid (by rw [Hn.out]; exact Hinv.out)
        obtain ⟨w3, rest', hcl, hrow3, hb3⟩ := clear_row wr g i j (cap - i) L rest Hrow.out HL.out hij
        have Hrow3 : Hid (Holds w3 g 9 (strC (l.filter keepS) ++ rest')) := Lib.hid (by rw [← Hd.out.done]; exact hrow3)
        have Hb3 := Lib.hid (Hb.out.trans (hb3 B hB))
        clear hrow3 hb3
        go_wp2
        go_ret
        unfold DelRet
        rw [Hd.out.count]
        exact ⟨rfl, ⟨rest', Hrow3.out⟩, Hb3.out⟩
end Go.Proofs.YtmgbmphheagdmaaGreatDoor
