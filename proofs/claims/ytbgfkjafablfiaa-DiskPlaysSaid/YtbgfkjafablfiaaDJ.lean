/-
  The map's names in order: the library's contracts of maps.Keys, slices.Sorted and slices.Sort laid over this program's numbers; the contracts of sorted and Names.
-/
import Derived.Test.YtbgfkjafablfiaaDI
import Derived.Shelf.SlIter.Nil
import Derived.Shelf.SortM.Plain
import Derived.Shelf.SortM.SortNone
namespace Go.Proofs.Ytbgfkjafablfiaa
open Go.RowKit Go.Maps Go.Sort Go.Shelf

/-- The library's numbers here: the keys, the collecting, the sort. -/
def rhoK : Ren := ⟨fun k => if k = 7 then 44 else if k = 10 then 51 else k,
  fun t => if t = 3 then 70 else if t = 23 then 56 else if t = 26 then 9 else if t = 27 then 82 else if t = 28 then 83 else if t = 33 then 79 else t, fun g => g⟩
def rhoC : Ren := ⟨fun k => if k = 6 then 43 else if k = 8 then 49 else if k = 9 then 50 else if k = 11 then 55 else k,
  fun t => if t = 24 then 38 else if t = 26 then 9 else if t = 28 then 83 else if t = 33 then 79 else if t = 37 then 94 else if t = 39 then 96 else if t = 40 then 97 else if t = 45 then 101 else if t = 48 then 104 else if t = 50 then 80 else if t = 51 then 106 else if t = 55 then 110 else if t = 57 then 112 else if t = 58 then 113 else t, fun g => g⟩
def rhoS : Ren := ⟨fun k => if k = 6 then 50 else if k = 8 then 57 else if k = 9 then 56 else if k = 19 then 68 else if k = 20 then 69 else if k = 21 then 59 else if k = 22 then 60 else if k = 23 then 61 else if k = 24 then 62 else if k = 25 then 63 else if k = 26 then 64 else if k = 27 then 65 else if k = 28 then 66 else if k = 29 then 67 else if k = 31 then 71 else if k = 32 then 72 else if k = 36 then 70 else if k = 37 then 73 else if k = 38 then 74 else if k = 39 then 75 else if k = 41 then 76 else k,
  fun t => if t = 26 then 38 else if t = 27 then 38 else if t = 29 then 9 else if t = 32 then 94 else if t = 35 then 96 else if t = 36 then 97 else if t = 41 then 101 else if t = 44 then 104 else if t = 46 then 80 else if t = 53 then 106 else if t = 57 then 110 else if t = 63 then 112 else if t = 64 then 113 else t, fun g => g⟩
theorem kyLays : SlLaysZ.n7 Try.prog rhoK := by
  constructor
  case f7 => exact ⟨Try.f44.name, by kernel_rfl, by kernel_rfl⟩
  case f10 => exact ⟨Try.f51.name, by kernel_rfl, by kernel_rfl⟩
  all_goals first
    | kernel_rfl
    | (intro w; kernel_rfl)
    | (intro w; rfl)
theorem sdLays : SlLaysZ.n6 Try.prog rhoC := by
  constructor
  case f6 => exact ⟨Try.f43.name, by kernel_rfl, by kernel_rfl⟩
  case f8 => exact ⟨Try.f49.name, by kernel_rfl, by kernel_rfl⟩
  case f11 => exact ⟨Try.f55.name, by kernel_rfl, by kernel_rfl⟩
  all_goals first
    | kernel_rfl
    | (intro w; kernel_rfl)
    | (intro w; rfl)
theorem stLays : SlLaysM.n6 Try.prog rhoS := by
  constructor
  case f6 => exact ⟨Try.f50.name, by kernel_rfl, by kernel_rfl⟩
  case f9 => exact ⟨Try.f56.name, by kernel_rfl, by kernel_rfl⟩
  case f21 => exact ⟨Try.f59.name, by kernel_rfl, by kernel_rfl⟩
  case f22 => exact ⟨Try.f60.name, by kernel_rfl, by kernel_rfl⟩
  case f23 => exact ⟨Try.f61.name, by kernel_rfl, by kernel_rfl⟩
  case f24 => exact ⟨Try.f62.name, by kernel_rfl, by kernel_rfl⟩
  case f25 => exact ⟨Try.f63.name, by kernel_rfl, by kernel_rfl⟩
  case f26 => exact ⟨Try.f64.name, by kernel_rfl, by kernel_rfl⟩
  case f27 => exact ⟨Try.f65.name, by kernel_rfl, by kernel_rfl⟩
  case f28 => exact ⟨Try.f66.name, by kernel_rfl, by kernel_rfl⟩
  case f29 => exact ⟨Try.f67.name, by kernel_rfl, by kernel_rfl⟩
  case f36 => exact ⟨Try.f70.name, by kernel_rfl, by kernel_rfl⟩
  case f37 => exact ⟨Try.f73.name, by kernel_rfl, by kernel_rfl⟩
  case f38 => exact ⟨Try.f74.name, by kernel_rfl, by kernel_rfl⟩
  case f39 => exact ⟨Try.f75.name, by kernel_rfl, by kernel_rfl⟩
  case f41 => exact ⟨Try.f76.name, by kernel_rfl, by kernel_rfl⟩
  all_goals first
    | kernel_rfl
    | (intro w; kernel_rfl)
    | (intro w; rfl)
theorem sorts_any (m : Nat) : AnyZ.SortsIn Try.prog rhoC Fence.wide m :=
  ⟨fun blk off cap ss W hH hblk hsz => callsIn_wide.2 (AnyM.slices_Sort_string stLays blk off cap ss W hH hblk hsz), fun p cap W => callsIn_wide.2 (AnyM.slices_Sort_string_none stLays p cap W)⟩
/-- maps.Keys: a function over a new block that holds the map. -/
theorem keys_any (mb : Option Nat) (W : World) : CallsIn Fence.wide 5 Try.prog 44 #[.map mb] W fun e w' => e = .returned (.func (.func 51) #[] #[.pointer (some ⟨W.heap.size, 0, none⟩)]) ∧ w' = W.alloc (.cells #[.map mb] 56) :=
  AnyZ.keys_in kyLays Fence.wide 5 trivial rfl mb W
theorem sorted_map (b nn : Nat) (D0 : DataW Unit) (R : Value → Option (DataW Unit × List MemPlace)) (w : World) (hown : w.ownsMap Try.prog 9 R b nn D0) (hmax : Maps.size D0 ≤ maxLen) (hbytes : Maps.size D0 * 16 ≤ 140737488355328) :
    CallsIn Fence.wide 5 Try.prog 43 #[.func (.func 51) #[] #[.pointer (some ⟨w.heap.size, 0, none⟩)]] (w.alloc (.cells #[.map (some b)] 56)) fun e w' => ∃ (v : Value) (ss : List (List UInt8)), e = .returned v ∧ ss.Perm (strKeys D0) ∧
      w'.ownsRow (w.alloc (.cells #[.map (some b)] 56)).heap.size 9 1 v ss.length ((ss.mergeSort (fun x y => decide (x ≤ y))).map encStr) ∧ (v = .slice none 0 0 ↔ ss = []) ∧ Below (w.alloc (.cells #[.map (some b)] 56)).heap.size (w.alloc (.cells #[.map (some b)] 56)) w' := by
  have hbl := hown.lt
  have hseq : SeqGives Fence.wide 2 Try.prog 51 #[.pointer (some ⟨w.heap.size, 0, none⟩)] encStr (fun ss => ss.Perm (strKeys D0)) (Maps.size D0) (w.alloc (.cells #[.map (some b)] 56)) :=
    AnyZ.keys_gives (ρ := rhoK) { kyLays with } Fence.wide _ trivial rfl (by omega) w.heap.size b nn D0 _ (by simp) (by simp) (World.ownsMap.alloc hown _)
  exact AnyZ.sorted_in sdLays Fence.wide 5 trivial trivial trivial trivial rfl (by omega) (sorts_any _) (enters_of Try.func50 (by kernel_rfl) rfl) 51 #[.pointer (some ⟨w.heap.size, 0, none⟩)] trivial (enters_of Try.func51 (by kernel_rfl) rfl) _ _ hmax hbytes _ hseq
theorem sorted_nil (w : World) :
    CallsIn Fence.wide 5 Try.prog 43 #[.func (.func 51) #[] #[.pointer (some ⟨w.heap.size, 0, none⟩)]] (w.alloc (.cells #[.map none] 56)) fun e w' => ∃ (v : Value) (ss : List (List UInt8)), e = .returned v ∧ ss = [] ∧
      w'.ownsRow (w.alloc (.cells #[.map none] 56)).heap.size 9 1 v ss.length ((ss.mergeSort (fun x y => decide (x ≤ y))).map encStr) ∧ (v = .slice none 0 0 ↔ ss = []) ∧ Below (w.alloc (.cells #[.map none] 56)).heap.size (w.alloc (.cells #[.map none] 56)) w' := by
  have hseq : SeqGives Fence.wide 2 Try.prog 51 #[.pointer (some ⟨w.heap.size, 0, none⟩)] encStr (fun ss : List (List UInt8) => ss = []) 0 (w.alloc (.cells #[.map none] 56)) :=
    AnyZ.keys_gives_nil (ρ := rhoK) { kyLays with } Fence.wide _ trivial rfl w.heap.size _ (by simp) (by simp)
  exact AnyZ.sorted_in sdLays Fence.wide 5 trivial trivial trivial trivial rfl (by omega) (sorts_any _) (enters_of Try.func50 (by kernel_rfl) rfl) 51 #[.pointer (some ⟨w.heap.size, 0, none⟩)] trivial (enters_of Try.func51 (by kernel_rfl) rfl) _ 0 (Nat.zero_le _) (by omega) _ hseq

section
variable {w w' : World} {r : Nat} {mb : Option Nat} {gm : List UInt8 → Nat} {vm : List UInt8 → Value} {s s' : St}
def namesF (l : List Fl) : List (List UInt8) := l.map (·.1)
theorem keys_names (gm : List UInt8 → Nat) (l : List Fl) : strKeys (mapF (elP gm) l) = namesF l := by
  show (l.map fun f => ((Lit.string f.1, elP gm f) : Lit × DataW Unit)).map (fun p => strOf p.1) = l.map (·.1)
  rw [List.map_map]; rfl
theorem enc_names (l : List (List UInt8)) : l.map encStr = strC l := by
  unfold strC
  refine List.map_congr_left fun x _ => ?_
  rw [bs_eq, encStr]

set_option maxRecDepth 100000 in
set_option maxHeartbeats 2000000 in
theorem sorted_m (h : DskM w r mb gm vm s) (hfit : Fit s) : Calls Try.prog 36 #[.pointer (some ⟨r, 0, none⟩)] w fun e w' => ∃ A cap, e = .returned (.slice A s.files.length cap) ∧ w'.ownsRow w.heap.size 9 1 (.slice A s.files.length cap) s.files.length (strC (namesF s.files)) ∧ Below w.heap.size w w' := by
  obtain ⟨c0, _, _, _, _, _⟩ := h.cells
  have hrise := h.rise
  have hmap := h.map
  have hlen := hfit.len
  clear h hfit
  have hfK : Fence.wide.fn 44 := trivial
  have hfS : Fence.wide.fn 43 := trivial
  have hr2 : (namesF s.files).Pairwise fun a b => ltL a b = true := List.pairwise_map.2 hrise
  have hnl : (namesF s.files).length = s.files.length := List.length_map ..
  cases mb with
  | some b =>
    have hown : w.ownsMap Try.prog 9 (ptrR (H := Unit)) b s.files.length (mapF (elP gm) s.files) := hmap
    have hS := Lib.hid (sorted_map b _ _ _ w hown (by rw [mapF_size]; unfold maxLen; omega) (by rw [mapF_size]; omega))
    have Hk := Lib.hid (keys_names gm s.files)
    have Hr2 := Lib.hid hr2
    have Hnl := Lib.hid hnl
    clear hown hmap hr2 hnl hrise
    refine (callsIn_wide (n := 6)).1 ?_
    refine callsIn_of_wp Try.func36 rfl trivial ?_ rfl
    simp only [Try.ntmps36, List.size_toArray, List.length_cons, List.length_nil, Nat.reduceAdd, Nat.reduceSub, Array.replicate_succ, Array.replicate_zero, List.push_toArray, List.append_toArray, List.nil_append, List.cons_append]
    gi_wp2_with (first
      | (gi_at_call 44; refine (keys_any _ _).mono ?_; rintro e w' ⟨rfl, rfl⟩)
      | (gi_at_call 43; refine hS.out.mono ?_; rintro e w' ⟨v, ss, rfl, hP, hrow, hnil, hb⟩))
    go_ret
    rw [Hk.out] at hP
    rw [sort_rise Hr2.out hP, enc_names, hP.length_eq, Hnl.out] at hrow
    obtain ⟨A, cap, rfl, _⟩ := own_row hrow
    exact ⟨A, cap, rfl, ownsRow_base_a hrow (by simp), ((Below.refl _ w).alloc (Nat.le_refl _) _).trans (hb.mono (by simp))⟩
  | none =>
    have hfl : s.files = [] := hmap
    have hS := Lib.hid (sorted_nil w)
    rw [hfl]
    clear hmap hr2 hnl hrise hfl hlen
    refine (callsIn_wide (n := 6)).1 ?_
    refine callsIn_of_wp Try.func36 rfl trivial ?_ rfl
    simp only [Try.ntmps36, List.size_toArray, List.length_cons, List.length_nil, Nat.reduceAdd, Nat.reduceSub, Array.replicate_succ, Array.replicate_zero, List.push_toArray, List.append_toArray, List.nil_append, List.cons_append]
    gi_wp2_with (first
      | (gi_at_call 44; refine (keys_any _ _).mono ?_; rintro e w' ⟨rfl, rfl⟩)
      | (gi_at_call 43; refine hS.out.mono ?_; rintro e w' ⟨v, ss, rfl, rfl, hrow, hnil, hb⟩))
    go_ret
    obtain rfl : v = .slice none 0 0 := hnil.2 trivial
    exact ⟨none, 0, rfl, World.ownsRow_nil _ _ _ _, ((Below.refl _ w).alloc (Nat.le_refl _) _).trans (hb.mono (by simp))⟩

set_option maxRecDepth 100000 in
set_option maxHeartbeats 2000000 in
theorem names_m (h : DskM w r mb gm vm s) (hfit : Fit s) : Calls Try.prog 23 #[.pointer (some ⟨r, 0, none⟩)] w fun e w' => (∃ A n cap, e = .returned (.slice A n cap) ∧ (namesL s).length = n ∧ RowAt w' A (strC (namesL s)) ∧ ∀ g off, A = some (⟨g, off, none⟩ : Addr) → w.heap.size ≤ g) ∧ Below w.heap.size w w' := by
  have HD := Lib.hid (down_m h)
  have HS := Lib.hid (sorted_m h hfit)
  clear h hfit
  unfold namesL
  by_cases ho : s.off = true
  · rw [if_pos ho]
    rw [ho] at HD
    clear ho
    go_enter Try.func23, Try.ntmps23
    go_wp2_with (go_at_call 19; refine HD.out.mono ?_; rintro e w' ⟨rfl, rfl⟩)
    go_ret
    exact ⟨⟨none, 0, 0, rfl, rfl, fun j v hj => by simp [strC] at hj, fun g off e => by cases e⟩, Below.refl _ _⟩
  · rw [if_neg ho]
    rw [off_false ho] at HD
    clear ho
    go_enter Try.func23, Try.ntmps23
    go_wp2_with (first | (go_at_call 19; refine HD.out.mono ?_; rintro e w' ⟨rfl, rfl⟩) | (go_at_call 36; refine HS.out.mono ?_; rintro e w1 ⟨A, cap, rfl, hrow, hb⟩; have Hrow := Lib.hid hrow; have Hb := Lib.hid hb; clear hrow hb))
    go_ret
    refine ⟨⟨A, _, cap, rfl, List.length_map .., own_row' Hrow.out, fun g off e => ?_⟩, Hb.out⟩
    subst e
    exact (Hrow.out.lt g rfl).1
end
end Go.Proofs.Ytbgfkjafablfiaa
