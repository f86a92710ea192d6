/- Texts of one claim, joined: DJ DK DL. -/
import Derived.Test.YtmgbmphheagdmaaGreatDoorDI
import Derived.Shelf.SlIter.Nil
import Derived.Shelf.SortM.Plain
import Derived.Shelf.SortM.SortNone
import Derived.StillTailTactics
/-
  The map's names in order: the library's contracts of maps.Keys, slices.Sorted and slices.Sort laid over this program's numbers; the contracts of sorted and Names.
-/
namespace Go.Proofs.YtmgbmphheagdmaaGreatDoor
open Go.RowKit Go.Maps Go.Sort Go.Shelf

/-- The library's numbers here: the keys, the collecting, the sort. -/
def rhoK : Ren := ⟨fun k => if k = 7 then 73 else if k = 10 then 98 else k,
  fun t => if t = 3 then 82 else if t = 23 then 68 else if t = 26 then 9 else if t = 27 then 110 else if t = 28 then 111 else if t = 33 then 81 else t, fun g => g⟩
def rhoC : Ren := ⟨fun k => if k = 6 then 72 else if k = 8 then 96 else if k = 9 then 97 else if k = 11 then 115 else k,
  fun t => if t = 24 then 55 else if t = 26 then 9 else if t = 28 then 111 else if t = 33 then 81 else if t = 37 then 104 else if t = 39 then 167 else if t = 40 then 168 else if t = 45 then 172 else if t = 48 then 102 else if t = 50 then 87 else if t = 51 then 177 else if t = 55 then 181 else if t = 57 then 183 else if t = 58 then 156 else t, fun g => g⟩
def rhoS : Ren := ⟨fun k => if k = 6 then 97 else if k = 8 then 113 else if k = 9 then 116 else if k = 19 then 125 else if k = 20 then 126 else if k = 21 then 127 else if k = 22 then 128 else if k = 23 then 129 else if k = 24 then 130 else if k = 25 then 131 else if k = 26 then 132 else if k = 27 then 133 else if k = 28 then 134 else if k = 29 then 135 else if k = 31 then 141 else if k = 32 then 142 else if k = 36 then 140 else if k = 37 then 143 else if k = 38 then 144 else if k = 39 then 145 else if k = 41 then 148 else k,
  fun t => if t = 26 then 55 else if t = 27 then 55 else if t = 29 then 9 else if t = 32 then 104 else if t = 35 then 167 else if t = 36 then 168 else if t = 41 then 172 else if t = 44 then 102 else if t = 46 then 87 else if t = 53 then 177 else if t = 57 then 181 else if t = 63 then 183 else if t = 64 then 156 else t, fun g => g⟩
theorem kyLays : SlLaysZ.n7 Tryz.prog rhoK := by
  constructor
  case f7 => exact ⟨Tryz.f73.name, by kernel_rfl, by kernel_rfl⟩
  case f10 => exact ⟨Tryz.f98.name, by kernel_rfl, by kernel_rfl⟩
  all_goals first
    | kernel_rfl
    | (intro w; kernel_rfl)
    | (intro w; rfl)
theorem sdLays : SlLaysZ.n6 Tryz.prog rhoC := by
  constructor
  case f6 => exact ⟨Tryz.f72.name, by kernel_rfl, by kernel_rfl⟩
  case f8 => exact ⟨Tryz.f96.name, by kernel_rfl, by kernel_rfl⟩
  case f11 => exact ⟨Tryz.f115.name, by kernel_rfl, by kernel_rfl⟩
  all_goals first
    | kernel_rfl
    | (intro w; kernel_rfl)
    | (intro w; rfl)
theorem stLays : SlLaysM.n6 Tryz.prog rhoS := by
  constructor
  case f6 => exact ⟨Tryz.f97.name, by kernel_rfl, by kernel_rfl⟩
  case f9 => exact ⟨Tryz.f116.name, by kernel_rfl, by kernel_rfl⟩
  case f21 => exact ⟨Tryz.f127.name, by kernel_rfl, by kernel_rfl⟩
  case f22 => exact ⟨Tryz.f128.name, by kernel_rfl, by kernel_rfl⟩
  case f23 => exact ⟨Tryz.f129.name, by kernel_rfl, by kernel_rfl⟩
  case f24 => exact ⟨Tryz.f130.name, by kernel_rfl, by kernel_rfl⟩
  case f25 => exact ⟨Tryz.f131.name, by kernel_rfl, by kernel_rfl⟩
  case f26 => exact ⟨Tryz.f132.name, by kernel_rfl, by kernel_rfl⟩
  case f27 => exact ⟨Tryz.f133.name, by kernel_rfl, by kernel_rfl⟩
  case f28 => exact ⟨Tryz.f134.name, by kernel_rfl, by kernel_rfl⟩
  case f29 => exact ⟨Tryz.f135.name, by kernel_rfl, by kernel_rfl⟩
  case f36 => exact ⟨Tryz.f140.name, by kernel_rfl, by kernel_rfl⟩
  case f37 => exact ⟨Tryz.f143.name, by kernel_rfl, by kernel_rfl⟩
  case f38 => exact ⟨Tryz.f144.name, by kernel_rfl, by kernel_rfl⟩
  case f39 => exact ⟨Tryz.f145.name, by kernel_rfl, by kernel_rfl⟩
  case f41 => exact ⟨Tryz.f148.name, by kernel_rfl, by kernel_rfl⟩
  all_goals first
    | kernel_rfl
    | (intro w; kernel_rfl)
    | (intro w; rfl)
theorem sorts_any (m : Nat) : AnyZ.SortsIn Tryz.prog rhoC Fence.wide m :=
  ⟨fun blk off cap ss W hH hblk hsz => callsIn_wide.2 (AnyM.slices_Sort_string stLays blk off cap ss W hH hblk hsz), fun p cap W => callsIn_wide.2 (AnyM.slices_Sort_string_none stLays p cap W)⟩
/-- maps.Keys: a function over a new block that holds the map. -/
theorem keys_any (mb : Option Nat) (W : World) : CallsIn Fence.wide 5 Tryz.prog 73 #[.map mb] W fun e w' => e = .returned (.func (.func 98) #[] #[.pointer (some ⟨W.heap.size, 0, none⟩)]) ∧ w' = W.alloc (.cells #[.map mb] 68) :=
  AnyZ.keys_in kyLays Fence.wide 5 trivial rfl mb W
theorem sorted_map (b nn : Nat) (D0 : DataW Unit) (R : Value → Option (DataW Unit × List MemPlace)) (w : World) (hown : w.ownsMap Tryz.prog 9 R b nn D0) (hmax : Maps.size D0 ≤ maxLen) (hbytes : Maps.size D0 * 16 ≤ 140737488355328) :
    CallsIn Fence.wide 5 Tryz.prog 72 #[.func (.func 98) #[] #[.pointer (some ⟨w.heap.size, 0, none⟩)]] (w.alloc (.cells #[.map (some b)] 68)) fun e w' => ∃ (v : Value) (ss : List (List UInt8)), e = .returned v ∧ ss.Perm (strKeys D0) ∧
      w'.ownsRow (w.alloc (.cells #[.map (some b)] 68)).heap.size 9 1 v ss.length ((ss.mergeSort (fun x y => decide (x ≤ y))).map encStr) ∧ (v = .slice none 0 0 ↔ ss = []) ∧ Below (w.alloc (.cells #[.map (some b)] 68)).heap.size (w.alloc (.cells #[.map (some b)] 68)) w' := by
  have hbl := hown.lt
  have hseq : SeqGives Fence.wide 2 Tryz.prog 98 #[.pointer (some ⟨w.heap.size, 0, none⟩)] encStr (fun ss => ss.Perm (strKeys D0)) (Maps.size D0) (w.alloc (.cells #[.map (some b)] 68)) :=
    AnyZ.keys_gives (ρ := rhoK) { kyLays with } Fence.wide _ trivial rfl (by omega) w.heap.size b nn D0 _ (by simp) (by simp) (World.ownsMap.alloc hown _)
  exact AnyZ.sorted_in sdLays Fence.wide 5 trivial trivial trivial trivial rfl (by omega) (sorts_any _) (enters_of Tryz.func97 (by kernel_rfl) rfl) 98 #[.pointer (some ⟨w.heap.size, 0, none⟩)] trivial (enters_of Tryz.func98 (by kernel_rfl) rfl) _ _ hmax hbytes _ hseq
theorem sorted_nil (w : World) :
    CallsIn Fence.wide 5 Tryz.prog 72 #[.func (.func 98) #[] #[.pointer (some ⟨w.heap.size, 0, none⟩)]] (w.alloc (.cells #[.map none] 68)) fun e w' => ∃ (v : Value) (ss : List (List UInt8)), e = .returned v ∧ ss = [] ∧
      w'.ownsRow (w.alloc (.cells #[.map none] 68)).heap.size 9 1 v ss.length ((ss.mergeSort (fun x y => decide (x ≤ y))).map encStr) ∧ (v = .slice none 0 0 ↔ ss = []) ∧ Below (w.alloc (.cells #[.map none] 68)).heap.size (w.alloc (.cells #[.map none] 68)) w' := by
  have hseq : SeqGives Fence.wide 2 Tryz.prog 98 #[.pointer (some ⟨w.heap.size, 0, none⟩)] encStr (fun ss : List (List UInt8) => ss = []) 0 (w.alloc (.cells #[.map none] 68)) :=
    AnyZ.keys_gives_nil (ρ := rhoK) { kyLays with } Fence.wide _ trivial rfl w.heap.size _ (by simp) (by simp)
  exact AnyZ.sorted_in sdLays Fence.wide 5 trivial trivial trivial trivial rfl (by omega) (sorts_any _) (enters_of Tryz.func97 (by kernel_rfl) rfl) 98 #[.pointer (some ⟨w.heap.size, 0, none⟩)] trivial (enters_of Tryz.func98 (by kernel_rfl) rfl) _ 0 (Nat.zero_le _) (by omega) _ hseq

section
variable {w w' : World} {r : Nat} {mb : Option Nat} {gm : List UInt8 → Nat} {vm : List UInt8 → Value} {s s' : St}
def namesF (l : List Fl) : List (List UInt8) := l.map (·.1)
theorem keys_names (gm : List UInt8 → Nat) (l : List Fl) : strKeys (mapF (elP gm) l) = namesF l := by
  show (l.map fun f => ((Lit.string f.1, elP gm f) : Lit × DataW Unit)).map (fun p => strOf p.1) = l.map (·.1)
  rw [List.map_map]; rfl
theorem enc_names (l : List (List UInt8)) : l.map encStr = strC l := by
  unfold strC
  refine List.map_congr_left fun x _ => ?_
  rw [bs_eq, encStr]

set_option maxRecDepth 100000 in
set_option maxHeartbeats 2000000 in
theorem sorted_m (h : DskM w r mb gm vm s) (hfit : Fit s) : Calls Tryz.prog 44 #[.pointer (some ⟨r, 0, none⟩)] w fun e w' => ∃ A cap, e = .returned (.slice A s.files.length cap) ∧ w'.ownsRow w.heap.size 9 1 (.slice A s.files.length cap) s.files.length (strC (namesF s.files)) ∧ Below w.heap.size w w' := by
  obtain ⟨c0, _, _, _, _, _⟩ := h.cells
  have hrise := h.rise
  have hmap := h.map
  have hlen := hfit.len
  clear h hfit
  have hfK : Fence.wide.fn 73 := trivial
  have hfS : Fence.wide.fn 72 := trivial
  have hr2 : (namesF s.files).Pairwise fun a b => ltL a b = true := List.pairwise_map.2 hrise
  have hnl : (namesF s.files).length = s.files.length := List.length_map ..
  cases mb with
  | some b =>
    have hown : w.ownsMap Tryz.prog 9 (ptrR (H := Unit)) b s.files.length (mapF (elP gm) s.files) := hmap
    have hS := Lib.hid (sorted_map b _ _ _ w hown (by rw [mapF_size]; unfold maxLen; omega) (by rw [mapF_size]; omega))
    have Hk := Lib.hid (keys_names gm s.files)
    have Hr2 := Lib.hid hr2
    have Hnl := Lib.hid hnl
    clear hown hmap hr2 hnl hrise
    refine (callsIn_wide (n := 6)).1 ?_
    refine callsIn_of_wp Tryz.func44 rfl trivial ?_ rfl
    simp only [Tryz.ntmps44, List.size_toArray, List.length_cons, List.length_nil, Nat.reduceAdd, Nat.reduceSub, Array.replicate_succ, Array.replicate_zero, List.push_toArray, List.append_toArray, List.nil_append, List.cons_append]
    gi_wp2_with (first
      | (gi_at_call 73; refine (keys_any _ _).mono ?_; rintro e w' ⟨rfl, rfl⟩)
      | (gi_at_call 72; refine hS.out.mono ?_; rintro e w' ⟨v, ss, rfl, hP, hrow, hnil, hb⟩))
    go_ret
    rw [Hk.out] at hP
    rw [sort_rise Hr2.out hP, enc_names, hP.length_eq, Hnl.out] at hrow
    obtain ⟨A, cap, rfl, _⟩ := own_row hrow
    exact ⟨A, cap, rfl, ownsRow_base_a hrow (by simp), ((Below.refl _ w).alloc (Nat.le_refl _) _).trans (hb.mono (by simp))⟩
  | none =>
    have hfl : s.files = [] := hmap
    have hS := Lib.hid (sorted_nil w)
    rw [hfl]
    clear hmap hr2 hnl hrise hfl hlen
    refine (callsIn_wide (n := 6)).1 ?_
    refine callsIn_of_wp Tryz.func44 rfl trivial ?_ rfl
    simp only [Tryz.ntmps44, List.size_toArray, List.length_cons, List.length_nil, Nat.reduceAdd, Nat.reduceSub, Array.replicate_succ, Array.replicate_zero, List.push_toArray, List.append_toArray, List.nil_append, List.cons_append]
    gi_wp2_with (first
      | (gi_at_call 73; refine (keys_any _ _).mono ?_; rintro e w' ⟨rfl, rfl⟩)
      | (gi_at_call 72; refine hS.out.mono ?_; rintro e w' ⟨v, ss, rfl, rfl, hrow, hnil, hb⟩))
    go_ret
    obtain rfl : v = .slice none 0 0 := hnil.2 trivial
    exact ⟨none, 0, rfl, World.ownsRow_nil _ _ _ _, ((Below.refl _ w).alloc (Nat.le_refl _) _).trans (hb.mono (by simp))⟩

set_option maxRecDepth 100000 in
set_option maxHeartbeats 2000000 in
theorem names_m (h : DskM w r mb gm vm s) (hfit : Fit s) : Calls Tryz.prog 26 #[.pointer (some ⟨r, 0, none⟩)] w fun e w' => (∃ A n cap, e = .returned (.slice A n cap) ∧ (namesL s).length = n ∧ RowAt w' A (strC (namesL s)) ∧ ∀ g off, A = some (⟨g, off, none⟩ : Addr) → w.heap.size ≤ g) ∧ Below w.heap.size w w' := by
  have HD := Lib.hid (down_m h)
  have HS := Lib.hid (sorted_m h hfit)
  clear h hfit
  unfold namesL
  by_cases ho : s.off = true
  · rw [if_pos ho]
    rw [ho] at HD
    clear ho
    go_enter Tryz.func26, Tryz.ntmps26
    go_wp2_with (go_at_call 54; refine HD.out.mono ?_; rintro e w' ⟨rfl, rfl⟩)
    go_ret
    exact ⟨⟨none, 0, 0, rfl, rfl, fun j v hj => by simp [strC] at hj, fun g off e => by cases e⟩, Below.refl _ _⟩
  · rw [if_neg ho]
    rw [off_false ho] at HD
    clear ho
    go_enter Tryz.func26, Tryz.ntmps26
    go_wp2_with (first | (go_at_call 54; refine HD.out.mono ?_; rintro e w' ⟨rfl, rfl⟩) | (go_at_call 44; refine HS.out.mono ?_; rintro e w1 ⟨A, cap, rfl, hrow, hb⟩; have Hrow := Lib.hid hrow; have Hb := Lib.hid hb; clear hrow hb))
    go_ret
    refine ⟨⟨A, _, cap, rfl, List.length_map .., own_row' Hrow.out, fun g off e => ?_⟩, Hb.out⟩
    subst e
    exact (Hrow.out.lt g rfl).1
end
end Go.Proofs.YtmgbmphheagdmaaGreatDoor

/-
  The contract of Crash.
-/
namespace Go.Proofs.YtmgbmphheagdmaaGreatDoor
open Go.RowKit Go.Maps

/-! The files when j of them have crashed, pure. -/
def mid (keep : List Int) (l : List Fl) (j : Nat) : List Fl := crashL keep 0 (l.take j) ++ l.drop j
theorem mid_zero (keep : List Int) (l : List Fl) : mid keep l 0 = l := by simp [mid, crashL]
theorem mid_end (keep : List Int) (l : List Fl) : mid keep l l.length = crashL keep 0 l := by simp [mid]
theorem mid_len (keep : List Int) (l : List Fl) (j : Nat) : (mid keep l j).length = l.length := by
  unfold mid
  rw [List.length_append, crashL_length, ← List.length_append, List.take_append_drop]
theorem mid_at {keep : List Int} {l : List Fl} {j : Nat} {f : Fl} (h : l[j]? = some f) : (mid keep l j)[j]? = some f := by
  obtain ⟨hl, _⟩ := List.getElem?_eq_some_iff.1 h
  have e : (crashL keep 0 (l.take j)).length = j := by rw [crashL_length, List.length_take]; omega
  unfold mid
  rw [List.getElem?_append_right (by omega), e, Nat.sub_self, List.getElem?_drop]
  simpa using h
theorem modify_mid (c d : List Fl) (x y : Fl) : (c ++ y :: d).modify c.length (fun _ => x) = c ++ x :: d := by
  induction c with
  | nil => rfl
  | cons a c ih => simp only [List.cons_append, List.length_cons, List.modify_succ_cons, ih]
theorem mid_step {keep : List Int} {l : List Fl} {j : Nat} {f : Fl} (h : l[j]? = some f) : mid keep l (j + 1) = (mid keep l j).modify j fun _ => crashF keep (lateN (l.take j)) f := by
  obtain ⟨hl, he⟩ := List.getElem?_eq_some_iff.1 h
  have htk : l.take (j + 1) = l.take j ++ [f] := by rw [List.take_add_one, h]; rfl
  have e : (crashL keep 0 (l.take j)).length = j := by rw [crashL_length, List.length_take]; omega
  unfold mid
  rw [htk, crashL_snoc, Nat.zero_add, List.drop_eq_getElem_cons hl]
  generalize crashL keep 0 (l.take j) = c at *
  generalize l.drop (j + 1) = d
  generalize crashF keep (lateN (l.take j)) f = x
  generalize l[j] = y
  subst e
  rw [modify_mid, List.append_assoc]; rfl
theorem mid_used (keep : List Int) (l : List Fl) (j : Nat) : usedL (mid keep l j) ≤ usedL l := by
  have := crash_used keep (l.take j) 0
  have h2 : usedL l = usedL (l.take j) + usedL (l.drop j) := by rw [← usedL_append, List.take_append_drop]
  unfold mid
  rw [usedL_append]; omega
theorem modify_same {l : List Fl} {j : Nat} {f : Fl} (h : l[j]? = some f) : (l.modify j fun _ => f) = l := by
  apply List.ext_getElem?
  intro k
  rw [List.getElem?_modify]
  by_cases hk : j = k
  · subst hk; simp [h]
  · simp [hk]
theorem modify_two (l : List Fl) (j : Nat) (a b : Fl) : ((l.modify j fun _ => a).modify j fun _ => b) = l.modify j fun _ => b := by
  apply List.ext_getElem?
  intro k
  rw [List.getElem?_modify, List.getElem?_modify, List.getElem?_modify]
  by_cases hk : j = k
  · subst hk; cases l[j]? <;> simp
  · simp [hk]
theorem crashF_none {keep : List Int} {n : Nat} {f : Fl} (h : f.2.2 = []) : crashF keep n f = f := by
  obtain ⟨a, b, c⟩ := f
  simp only at h
  subst h
  simp [crashF]
/-- Cut behind so many late bytes, then synced. -/
theorem crashF_some {keep : List Int} {n : Nat} {f : Fl} (h : f.2.2 ≠ []) (m : Nat) (hm : m = keepN keep n f.2.2.length) : syncF (cutF (f.2.1.length + m) f) = crashF keep n f := by
  unfold crashF syncF
  rw [if_neg h, cutF_all, hm]
  show (f.1, _, _) = _
  rw [List.take_append, List.take_of_length_le (by omega), Nat.add_sub_cancel_left]
theorem keepN_le {keep : List Int} {n m : Nat} : keepN keep n m ≤ m := by
  unfold keepN
  split
  · exact Nat.zero_le _
  · exact Nat.le_of_lt_succ (Nat.mod_lt _ (Nat.succ_pos _))

section
variable {w w' : World} {r : Nat} {mb : Option Nat} {gm : List UInt8 → Nat} {vm : List UInt8 → Value} {s s' : St}
/-- 'd.files[name]' at a name that is there. -/
theorem look1_m (h : DskM w r mb gm vm s) {nm : List UInt8} {i : Nat} (hat : atN nm s.files = some i) (hnm : nm.length ≤ 9223372036854775807) :
    (Instr.lookup 68 (.map mb) (.string (bs nm)) false).run Tryz.prog w = .ok (.pointer (some ⟨gm nm, 0, none⟩)) w := by
  have hm := h.map
  obtain ⟨f, hf, _⟩ := atN_some hat
  obtain ⟨b, rfl⟩ := h.some_map (List.mem_of_getElem? hf)
  obtain ⟨v, ps, h1, h2⟩ := World.ownsMap.lookup (w := w) hm law9 Tryz.underlying68 (zero70 w) (zd := .nil) (zp := []) rfl (key_bs hnm)
  rw [elP_at hat] at h2
  rw [h1, ptr_inv h2]
/-- What the rounds of Crash keep. -/
structure CrM (w1 : World) (F : Nat → Prop) (r : Nat) (mb : Option Nat) (gm : List UInt8 → Nat) (s : St) (l : List Fl) (wr : World) : Prop where
  ex : ∃ vm, DskM wr r mb gm vm { s with files := l } ∧ ∀ k, FootM r mb gm vm l k → F k ∨ w1.heap.size ≤ k
  only : Only F w1 wr

theorem row_only {F : Nat → Prop} {A : Option Addr} {cs : List Value} (h : RowAt w A cs) (ho : Only F w w') (hA : ∀ g off, A = some (⟨g, off, none⟩ : Addr) → 0 < cs.length → ¬ F g) : RowAt w' A cs := fun j v hv => by
  obtain ⟨b, off, e, hl, hc⟩ := h j v hv
  have hlen := (List.getElem?_eq_some_iff.1 hv).1
  exact ⟨b, off, e, Nat.lt_of_lt_of_le hl ho.size, (ho.cell (p := ⟨b, off + j, none⟩) hl (hA b off e (by omega))).trans hc⟩
theorem wp_region_tail {P : Program} {id : Nat} {Q : Exit → Act → World → Prop} {a : Act} {W : World} {l : List Oper} (n : Nat) (hm : P.follows .mixedOrders = true) (hB : Region.lexTailB .any l.toArray n = true)
    (h : wpStill P l.toArray W.drew (fun a' => wpList P l.toArray Q (l.drop n) a' W.drew) (l.take n) a) : (Code.region id l.toArray true).wp P Q a W := wp_region_still_tail n hm hB h
theorem DskM.drewN (h : DskM w r mb gm vm s) (n : Nat) : DskM (w.drewN n) r mb gm vm s := h.only (F := fun _ => False) ((Only.refl _ w).drewN n) fun _ _ => id
theorem CrM.drewN {w1 : World} {F : Nat → Prop} {l : List Fl} (h : CrM w1 F r mb gm s l w) (n : Nat) : CrM w1 F r mb gm s l (w.drewN n) := by
  obtain ⟨⟨vm, h1, h2⟩, h3⟩ := h
  exact ⟨⟨vm, h1.drewN n, h2⟩, h3.drewN n⟩
set_option maxRecDepth 100000 in
set_option maxHeartbeats 8000000 in
theorem crash_m (h : DskM w r mb gm vm s) (hfit : Fit s) (keep : List Int) (A : Option Addr) (kl kc : Nat) (hl : keep.length = kl) (hrow : RowAt w A (intC keep)) (hA : ∀ g off, A = some (⟨g, off, none⟩ : Addr) → 0 < kl → ¬ FootM r mb gm vm s.files g) (hI : ∀ x ∈ keep, I64 x) (hkl : kl ≤ 9223372036854775807) :
    Calls Tryz.prog 16 #[.pointer (some ⟨r, 0, none⟩), .slice A kl kc] w (OpRet (.tuple #[]) r mb gm vm s (crashS keep s) w) := by
  have H := Lib.hid h
  have Hfit := Lib.hid hfit
  have HS := Lib.hid (sorted_m h hfit)
  have HI := Lib.hid hI
  have Hl := Lib.hid hl
  have Hrow := Lib.hid hrow
  have HA := Lib.hid hA
  obtain ⟨N, hN⟩ : ∃ N, N = s.files.length := ⟨_, rfl⟩
  have HN := Lib.hid hN
  rw [← hN] at HS
  have hN6 : N ≤ 1000000 := by rw [hN]; exact hfit.len
  clear h hfit hI hl hrow hA hN
  go_enter Tryz.func16, Tryz.ntmps16
  go_wp2_with (go_at_call 44; refine HS.out.mono ?_; rintro e w1 ⟨B, cap, rfl, hnr, hb⟩; have Hnr := Lib.hid hnr; have Hb := Lib.hid hb; clear hnr hb)
  have HF : Hid (∀ k, FootM r mb gm vm s.files k → k < w.heap.size) := Lib.hid (fun k hk => H.out.lt hk)
  have Hd1 := Lib.hid (H.out.below Hb.out)
  go_loopw [4, 14] (fun iv jv wr => ∃ j : Nat, j ≤ N ∧ jv = .int .i64 j ∧ iv = .int .i64 (lateN (s.files.take j) : Nat) ∧ CrM w1 (FootM r mb gm vm s.files) r mb gm s (mid keep s.files j) wr) (fun _ jv _ => N - (intOf jv).toNat)
  case atStart => exact ⟨0, Nat.zero_le _, rfl, by simp [lateN], ⟨vm, by rw [mid_zero]; exact Hd1.out, fun k hk => .inl (by rw [mid_zero] at hk; exact hk)⟩, Only.refl _ _⟩
  case round =>
    obtain ⟨j, hj, rfl, rfl, hcr⟩ := hrel
    by_cases hlt : j < N
    · have hltz : (j : Int) < (N : Int) := by omega
      have hj0 : (0 : Int) ≤ (j : Int) := by omega
      obtain ⟨f, hf⟩ : ∃ f, s.files[j]? = some f := ⟨_, List.getElem?_eq_getElem (by rw [← HN.out]; exact hlt)⟩
      obtain ⟨⟨vj, hdj, hkj⟩, hoj⟩ := hcr
      have hmj : (mid keep s.files j)[j]? = some f := mid_at hf
      have hmem := List.mem_of_getElem? hmj
      have HL := Lib.hid (look1_m hdj (atN_of hdj.rise hmj) (hdj.short f hmem))
      have hfil := hdj.fil f hmem
      obtain ⟨A2, cap2, hv2, _⟩ := own_row hfil.own
      have d0 : wr.cell? ⟨gm f.1, 0, none⟩ = some (.slice A2 (sizeF f) cap2) := by rw [← hv2]; exact hfil.box.cell rfl
      have d1 : wr.cell? ⟨gm f.1, 0 + 1, none⟩ = some (.int .i64 (f.2.1.length : Int)) := hfil.box.cell rfl
      obtain ⟨c0, _, _, _, _, _⟩ := hdj.cells
      obtain ⟨b, off, rfl, hbl, hbc⟩ := row_str (own_row' Hnr.out) j f.1 (by unfold namesF; rw [List.getElem?_map, hf]; rfl)
      have e0 : wr.cell? ⟨b, off + j, none⟩ = some (.string (bs f.1)) := (hoj.cell (p := ⟨b, off + j, none⟩) hbl (fun hF => by
        have h1 := (Hnr.out.lt b rfl).1
        have h2 := HF.out b hF
        omega)).trans hbc
      have hus : sizeF f ≤ 1000000000 := Nat.le_trans (size_used hmj) (Nat.le_trans (mid_used keep s.files j) Hfit.out.used)
      have Hmj := Lib.hid hmj
      have Dj := Lib.hid hdj
      have Kj := Lib.hid hkj
      have Oj := Lib.hid hoj
      have Hf := Lib.hid hf
      have hsub : ((sizeF f : Nat) : Int) - (f.2.1.length : Int) = (f.2.2.length : Int) := by unfold sizeF; omega
      have hus2 : f.2.1.length ≤ 1000000000 := by unfold sizeF at hus; omega
      have hln : lateN (s.files.take j) ≤ 1000000 := Nat.le_trans (lateN_le _) (by rw [List.length_take]; omega)
      have Htk : Hid (s.files.take (j + 1) = s.files.take j ++ [f]) := Lib.hid (by rw [List.take_add_one, hf]; rfl)
      have Hst := Lib.hid (mid_step (keep := keep) hf)
      clear hfil hdj hkj hoj hf hmj hmem hbc hbl hv2
      by_cases hlate : f.2.2 = []
      · have e3 : f.2.2.length = 0 := by rw [hlate]; rfl
        rw [e3] at hsub
        have Hln : Hid (lateN (s.files.take (j + 1)) = lateN (s.files.take j)) := Lib.hid (by rw [Htk.out, lateN_snoc, if_pos hlate]; rfl)
        have Hsm : Hid (mid keep s.files (j + 1) = mid keep s.files j) := Lib.hid (by rw [Hst.out, crashF_none hlate, modify_same Hmj.out])
        clear hlate e3
        generalize lateN (s.files.take j) = ln at *
        generalize sizeF f = sz at *
        generalize f.2.1.length = dn at *
        generalize gm f.1 = g at *
        go_wp2_with (at_lookup; refine wpList_lookup_run rfl _ _ 68 false rfl _ _ _ rfl rfl HL.out ?_)
        go_quiet (fail)
        go_wp2
        go_roundw
        case rel =>
          refine ⟨j + 1, by omega, by go_num, by rw [Hln.out], ?_⟩
          rw [Hsm.out]
          exact CrM.drewN ⟨⟨vj, Dj.out, Kj.out⟩, Oj.out⟩ _
        case measure => simp [intOf]; omega
      · have hlz : (((f.2.2.length : Nat) : Int) == 0) = false := by
          have : f.2.2.length ≠ 0 := fun e => hlate (List.eq_nil_of_length_eq_zero e)
          exact beq_eq_false_iff_ne.2 (by omega)
        obtain ⟨m, hm⟩ : ∃ m, m = keepN keep (lateN (s.files.take j)) f.2.2.length := ⟨_, rfl⟩
        have hml : m ≤ f.2.2.length := by rw [hm]; exact keepN_le
        have Hln : Hid (lateN (s.files.take (j + 1)) = lateN (s.files.take j) + 1) := Lib.hid (by rw [Htk.out, lateN_snoc, if_neg hlate])
        have Hcf := Lib.hid (crashF_some hlate m hm)
        have hle : f.2.1.length + m ≤ sizeF f := by unfold sizeF; omega
        have Hw : Hid (Only (FootM r mb gm vm s.files) w wr) := Lib.hid ((Only.of_below Hb.out (fun i hi => .inr hi)).trans Oj.out)
        have Hrw : Hid (RowAt wr A (intC keep)) := Lib.hid (row_only Hrow.out Hw.out (fun g off e h0 => HA.out g off e (by rw [← Hl.out]; simpa [intC] using h0)))
        have HK : Hid (∀ q, Calls Tryz.prog 46 #[.slice A kl kc, .int .i64 (lateN (s.files.take j) : Nat), .int .i64 (f.2.2.length : Nat)] (wr.drewN q) fun e w' => e = .returned (.int .i64 (m : Nat)) ∧ w' = wr.drewN q) := Lib.hid (fun q => by
          rw [hm]; exact kept_m keep A kl kc (wr.drewN q) Hl.out Hrw.out HI.out hkl _ _ hln (by unfold sizeF at hus; omega))
        have HT : Hid (∀ q, Calls Tryz.prog 45 #[.pointer (some ⟨r, 0, none⟩), .pointer (some ⟨gm f.1, 0, none⟩), .int .i64 ((f.2.1.length : Int) + (m : Int))] (wr.drewN q) fun e w' => e = .returned (.tuple #[]) ∧
            ∃ v', DskM w' r mb gm (upd vj f.1 v') { s with files := (mid keep s.files j).modify j fun _ => cutF (f.2.1.length + m) f } ∧ Only (fun k => k = r ∨ k = gm f.1) (wr.drewN q) w' ∧ (∀ k, FootM r mb gm (upd vj f.1 v') ((mid keep s.files j).modify j fun _ => cutF (f.2.1.length + m) f) k → FootM r mb gm vj (mid keep s.files j) k ∨ (wr.drewN q).heap.size ≤ k)) := Lib.hid (fun q => by
          rw [← Int.natCast_add]
          exact trunc_m (s := { s with files := mid keep s.files j }) (Dj.out.drewN q) ⟨Hfit.out.room0, Hfit.out.room1, Hfit.out.fuse0, Hfit.out.fuse1, Nat.le_trans (mid_used keep s.files j) Hfit.out.used, by show (mid keep s.files j).length ≤ _; rw [mid_len]; exact Hfit.out.len⟩ Hmj.out _ hle)
        have hml9 : m ≤ 1000000000 := by unfold sizeF at hus; omega
        have hwr : IntKind.i64.wrap ((f.2.1.length : Int) + (m : Int)) = (f.2.1.length : Int) + (m : Int) := by rw [IntKind.wrap_i64]; omega
        clear hm hlate hml
        generalize lateN (s.files.take j) = ln at *
        go_wp2_with (at_lookup; refine wpList_lookup_run rfl _ _ 68 false rfl _ _ _ rfl rfl HL.out ?_)
        go_quiet (fail)
        go_wp2
        refine wp_region_tail 11 kyLays.mixed (by kernel_rfl) ?_
        simp only [List.take_succ_cons, List.take_zero, List.drop_succ_cons, List.drop_zero]
        repeat still_step
        still_call (HK.out _)
        repeat still_step
        refine wpStill_nil ?_
        try rw [hwr]
        go_wp2_with (first | (go_at_call 45; refine (HT.out _).mono ?_; rintro e w3 ⟨rfl, v3, hd3, ho3, hk3⟩; have hm3 : ((mid keep s.files j).modify j fun _ => cutF (f.2.1.length + m) f)[j]? = some (cutF (f.2.1.length + m) f) := (by rw [List.getElem?_modify, Hmj.out]; simp); have hfil3 := hd3.fil _ (List.mem_of_getElem? hm3); rw [show (cutF (f.2.1.length + m) f).1 = f.1 from rfl, upd_same] at hfil3; obtain ⟨A3, cap3, hv3, _⟩ := own_row hfil3.own; have d0 : w3.cell? ⟨gm f.1, 0, none⟩ = some (.slice A3 (f.2.1.length + m) cap3) := (by rw [← cutF_size hle, ← hv3]; exact hfil3.box.cell rfl); have d1 : w3.cell? ⟨gm f.1, 0 + 1, none⟩ = some (.int .i64 ((cutF (f.2.1.length + m) f).2.1.length : Int)) := hfil3.box.cell rfl; have g1 := hfil3.box.frozen 1; have D3 := Lib.hid hd3; have O3 := Lib.hid ho3; have K3 := Lib.hid hk3; have M3 := Lib.hid hm3; clear hd3 ho3 hk3 hm3 hfil3 hv3))
        go_roundw
        case rel =>
          obtain ⟨h1, h2, h3⟩ := sync_end D3.out M3.out ((f.2.1.length : Int) + (m : Int)) (by rw [cutF_size hle, Int.natCast_add])
          have hfe : ((mid keep s.files j).modify j fun _ => cutF (f.2.1.length + m) f).modify j (fun _ => syncF (cutF (f.2.1.length + m) f)) = mid keep s.files (j + 1) := by rw [modify_two, Hcf.out, Hst.out]
          simp only at h1 h3
          rw [hfe] at h1 h3
          have hfm := List.mem_of_getElem? Hf.out
          refine ⟨j + 1, by omega, by go_num, by rw [Hln.out]; go_num, ⟨_, h1, fun k hk => ?_⟩, ?_⟩
          · rcases h3 k hk with e | e
            · rcases K3.out k e with e | e
              · exact Kj.out k e
              · exact .inr (Nat.le_trans Oj.out.size e)
            · exact .inr (Nat.le_trans Oj.out.size (Nat.le_trans O3.out.size e))
          · refine ((Oj.out.drewN _).trans (O3.out.mono fun k e => ?_)).trans (h2.mono fun k e => ?_)
            · rcases e with e | e
              · exact .inl e
              · exact .inr (.inr ⟨f, hfm, .inl e⟩)
            · exact .inr (.inr ⟨f, hfm, .inl e⟩)
        case measure => simp [intOf]; omega
    · have hltz : ¬ (j : Int) < (N : Int) := by omega
      obtain ⟨⟨vj, hdj, hkj⟩, hoj⟩ := hcr
      obtain rfl : j = N := by omega
      have Dj := Lib.hid hdj
      have Kj := Lib.hid hkj
      have Oj := Lib.hid hoj
      obtain ⟨_, _, _, c3, c4, c5⟩ := hdj.cells
      have f3 := hdj.box.frozen 3
      have f4 := hdj.box.frozen 4
      have f5 := hdj.box.frozen 5
      clear hdj hkj hoj
      go_wp2
      go_end0
      have ho : Only (fun k => k = r) wr (((wr.setCell ⟨r, 3, none⟩ (.bool false)).setCell ⟨r, 4, none⟩ (.bool false)).setCell ⟨r, 5, none⟩ (.int .i64 0)) := ((only_set wr r 3 _).trans (only_set _ r 4 _)).trans (only_set _ r 5 _)
      have hfe : mid keep s.files j = crashL keep 0 s.files := by rw [HN.out, mid_end]
      have hd := Dj.out.boxed (s' := crashS keep s) hfe.symm ho (by
        refine cast (congrArg (Holds _ r 70) ?_) (((Dj.out.box.set 3 (.bool false)).set 4 (.bool false)).set 5 (.int .i64 0))
        unfold boxC
        simp only [crashS, hfe]
        rfl)
      refine ⟨rfl, mb, gm, vj, hd, ((Only.of_below Hb.out (fun i hi => .inr hi)).trans Oj.out).trans (ho.mono fun k e => .inl e), fun k hk => ?_⟩
      rcases Kj.out k (by rw [hfe]; exact hk) with e | e
      · exact .inl e
      · exact .inr (Nat.le_trans Hb.out.size e)
end
end Go.Proofs.YtmgbmphheagdmaaGreatDoor

/-
  The contract of New; the program's disk answers what the document says; one that isn't there.
-/
namespace Go.Proofs.YtmgbmphheagdmaaGreatDoor
open Go.RowKit Go.Maps

theorem new_zero (w : World) (gm : List UInt8 → Nat) (vm : List UInt8 → Value) : DskM (w.alloc (.cells #[.map none, .int .i64 0, .int .i64 0, .bool false, .bool false, .int .i64 0] 70)) w.heap.size none gm vm (newS 0) :=
  ⟨Holds.new w 70 _, rfl, (fun _ h => (by cases h)), (fun _ h => (by cases h)), (fun _ h => (by cases h)), List.Pairwise.nil, (fun _ h => (by cases h))⟩
set_option maxRecDepth 100000 in
set_option maxHeartbeats 2000000 in
theorem new_m (room : Int) (w : World) (h0 : 0 ≤ room) (h1 : room ≤ 8388608) : Calls Tryz.prog 10 #[.int .i64 room] w fun e w' => e = .returned (.tuple #[.pointer (some ⟨w.heap.size, 0, none⟩), .int .i64 0]) ∧ DskM w' w.heap.size none (fun _ => 0) (fun _ => undef) (newS room) ∧ Below w.heap.size w w' := by
  have HR := Lib.hid (room_m (new_zero w (fun _ => 0) (fun _ => undef)) room (by unfold I64; omega))
  rw [show roomS room (newS 0) = (0, newS room) from if_pos ⟨h0, h1⟩] at HR
  clear h0 h1
  go_enter Tryz.func10, Tryz.ntmps10
  go_wp2_with (go_at_call 19; refine HR.out.mono ?_; rintro e w1 ⟨rfl, hd1, ho1⟩; have D1 := Lib.hid hd1; have O1 := Lib.hid ho1; clear hd1 ho1)
  go_ret2
  exact ⟨rfl, D1.out, ((Below.refl w.heap.size w).alloc (Nat.le_refl _) (.cells #[.map none, .int .i64 0, .int .i64 0, .bool false, .bool false, .int .i64 0] 70)).trans (O1.out.below (by simp) (fun i hi => by rw [hi]; exact Nat.le_refl _))⟩
set_option maxRecDepth 100000 in
set_option maxHeartbeats 2000000 in
theorem new_bad (room : Int) (w : World) (hI : I64 room) (h0 : ¬ (0 ≤ room ∧ room ≤ 8388608)) : Calls Tryz.prog 10 #[.int .i64 room] w fun e w' => e = .returned (.tuple #[.pointer none, .int .i64 1]) ∧ Below w.heap.size w w' := by
  have HR := Lib.hid (room_m (new_zero w (fun _ => 0) (fun _ => undef)) room hI)
  rw [show roomS room (newS 0) = (1, newS 0) from if_neg h0] at HR
  clear h0 hI
  go_enter Tryz.func10, Tryz.ntmps10
  go_wp2_with (go_at_call 19; refine HR.out.mono ?_; rintro e w1 ⟨rfl, hd1, ho1⟩; have D1 := Lib.hid hd1; have O1 := Lib.hid ho1; clear hd1 ho1)
  go_ret2
  exact ⟨rfl, ((Below.refl w.heap.size w).alloc (Nat.le_refl _) (.cells #[.map none, .int .i64 0, .int .i64 0, .bool false, .bool false, .int .i64 0] 70)).trans (O1.out.below (by simp) (fun i hi => by rw [hi]; exact Nat.le_refl _))⟩

/-- Behind a, in blocks F, lies a disk s. -/
def DiskD (w : World) (a : Addr) (F : Nat → Prop) (s : St) : Prop :=
  ∃ r mb gm vm, a = ⟨r, 0, none⟩ ∧ DskM w r mb gm vm s ∧ (∀ k, FootM r mb gm vm s.files k → F k) ∧ ∀ k, F k → k < w.heap.size
theorem op_ret {x : Value} {r : Nat} {mb : Option Nat} {gm : List UInt8 → Nat} {vm : List UInt8 → Value} {F : Nat → Prop} {s s' : St} {w : World} {f : Nat} {args : Array Value} (hF : ∀ k, FootM r mb gm vm s.files k → F k) (hl : ∀ k, F k → k < w.heap.size)
    (h : Calls Tryz.prog f args w (OpRet x r mb gm vm s s' w)) : Calls Tryz.prog f args w (DRet DiskD x ⟨r, 0, none⟩ F s' w) :=
  h.mono fun _ w' ⟨he, mb', gm', vm', hd, ho, hk⟩ => ⟨he, fun k => F k ∨ (w.heap.size ≤ k ∧ k < w'.heap.size), ⟨r, mb', gm', vm', rfl, hd, fun k h1 => (hk k h1).elim (fun h2 => .inl (hF k h2)) (fun h2 => .inr ⟨h2, hd.lt h1⟩),
    fun k h1 => h1.elim (fun h2 => Nat.lt_of_lt_of_le (hl k h2) ho.size) (fun h2 => h2.2)⟩, ho.mono hF, fun _ h1 => h1.elim .inl (fun h2 => .inr h2.1)⟩
def good : GoodD where
  D := DiskD
  foot := fun ⟨_, _, _, _, _, _, _, hl⟩ k hk => hl k hk
  stay := fun {w w' a F s} ⟨r, mb, gm, vm, ha, hd, hF, hl⟩ hs hk => ⟨r, mb, gm, vm, ha, by
    have hb : ∀ k, FootM r mb gm vm s.files k → w'.heap[k]? = w.heap[k]? := fun k h => hk k (hF k h)
    refine ⟨(hb r (.inl rfl)).trans hd.box, ?_, fun f hf => ⟨(hb _ (.inr (.inr ⟨f, hf, .inl rfl⟩))).trans (hd.fil f hf).box, ?_⟩, hd.inj, hd.injv, hd.rise, hd.short⟩
    · have hm := hd.map
      cases mb with
      | none => exact hm
      | some b =>
        obtain ⟨es, clock, h1, q⟩ := hm
        exact ⟨es, clock, (hb b (.inr (.inl rfl))).trans h1, q⟩
    · have ho := (hd.fil f hf).own
      refine ⟨ho.1, ?_⟩
      rcases ho.2 with h0 | ⟨g, cap, cur, hv, hbg, hh, rest⟩
      · exact .inl h0
      · exact .inr ⟨g, cap, cur, hv, hbg, (hb g (.inr (.inr ⟨f, hf, .inr (by rw [hv]; rfl)⟩))).trans hh, rest⟩
    , hF, fun k h => Nat.lt_of_lt_of_le (hl k h) hs⟩
  rise := fun ⟨_, _, _, _, _, hd, _, _⟩ => hd.rise
  short := fun ⟨_, _, _, _, _, hd, _, _⟩ => hd.short
  new := fun room w h0 h1 => (new_m room w h0 h1).mono fun e w' ⟨he, hd, hb⟩ => ⟨⟨w.heap.size, 0, none⟩, fun k => k = w.heap.size, he, ⟨_, _, _, _, rfl, hd, (fun k hk => (by
      rcases hk with e | e | ⟨f, hf, _⟩
      · exact e
      · cases e
      · cases hf)), (fun k hk => (by rw [hk]; exact hd.box.lt))⟩, fun k hk => Nat.le_of_eq hk.symm, hb⟩
  bad := fun room w hI h0 => new_bad room w hI h0
  append := fun nm b a F s w ⟨r, mb, gm, vm, ha, hd, hF, hl⟩ hf hnm hbl => by subst ha; exact op_ret hF hl (append_m hd hf nm b hnm hbl)
  sync := fun nm a F s w hnm ⟨r, mb, gm, vm, ha, hd, hF, hl⟩ hf => by subst ha; exact op_ret hF hl (sync_m hd hf hnm)
  cut := fun nm n a F s w hnm ⟨r, mb, gm, vm, ha, hd, hF, hl⟩ hf hn => by subst ha; exact op_ret hF hl (cut_m hd hf hnm n hn)
  remove := fun nm a F s w hnm ⟨r, mb, gm, vm, ha, hd, hF, hl⟩ hf => by subst ha; exact op_ret hF hl (remove_m hd hf hnm)
  read := fun nm a F s w hnm ⟨r, mb, gm, vm, ha, hd, hF, hl⟩ _ => by
    subst ha
    exact op_ret hF hl ((read_m hd hnm).mono fun e w' ⟨he, hw⟩ => ⟨he, by rw [hw]; exact got_same hd⟩)
  crash := fun keep A kl kc a F s w ⟨r, mb, gm, vm, ha, hd, hF, hl⟩ hf hk hrow hA hI hkl => by subst ha; exact op_ret hF hl (crash_m hd hf keep A kl kc hk hrow (fun g off e h0 hk => hA g off e h0 (hF g hk)) hI hkl)
  fuse := fun n a F s w ⟨r, mb, gm, vm, ha, hd, hF, hl⟩ hn => by
    subst ha
    exact op_ret hF hl ((fuse_m hd n hn).mono fun e w' ⟨he, hd', ho⟩ => ⟨he, got_box hd' rfl ho⟩)
  room := fun n a F s w ⟨r, mb, gm, vm, ha, hd, hF, hl⟩ hn => by
    subst ha
    exact op_ret hF hl ((room_m hd n hn).mono fun e w' ⟨he, hd', ho⟩ => ⟨he, got_box hd' (by unfold roomS; split <;> rfl) ho⟩)
  down := fun a F s w ⟨r, mb, gm, vm, ha, hd, _, _⟩ => by
    subst ha
    exact (down_m hd).mono fun e w' ⟨he, hw⟩ => ⟨he, by rw [hw]; exact Below.refl _ _⟩
  used := fun a F s w ⟨r, mb, gm, vm, ha, hd, _, _⟩ _ => by
    subst ha
    exact (used_m hd).mono fun e w' ⟨he, hw⟩ => ⟨he, by rw [hw]; exact Below.refl _ _⟩
  names := fun a F s w ⟨r, mb, gm, vm, ha, hd, hF, hl⟩ hf => by
    subst ha
    exact (names_m hd hf).mono fun e w' ⟨⟨A, n, cap, he, hn, hr, hg⟩, hb⟩ => ⟨⟨A, n, cap, he, hn, hr, fun g off e hF => by have h1 := hg g off e; have h2 := hl g hF; omega⟩, hb⟩
end Go.Proofs.YtmgbmphheagdmaaGreatDoor
