/-
  The contracts of the reference's Same and of the laws' great.
-/
import Derived.Test.YtfjgikcbngfhmaaSK
namespace Go.Proofs.Ytfjgikcbngfhmaa
open Go.RowKit

theorem bsEq (a b : List UInt8) : ((bs a).toList == (bs b).toList) = decide (a = b) := by
  rw [bs_toList, bs_toList]
  by_cases h : a = b
  · subst h; simp
  · rw [beq_eq_false_iff_ne.2 h, decide_eq_false h]

set_option maxRecDepth 100000 in
set_option maxHeartbeats 2000000 in
theorem refsame_any (l m : List Sp) (A A' : Option Addr) (n n' cap cap' : Nat) (w : World) (hn : l.length = n) (hn' : m.length = n') (hr : RowAt w A (spC l)) (hr' : RowAt w A' (spC m)) (hn2 : n ≤ 400000) :
    Calls Try.prog 21 #[.slice A n cap, .slice A' n' cap'] w fun e w' => e = .returned (.bool (decide (l = m))) ∧ Below w.heap.size w w' := by
  have Hr := Lib.hid hr
  have Hr' := Lib.hid hr'
  have Hn := Lib.hid hn
  have Hn' := Lib.hid hn'
  clear hr hr' hn hn'
  by_cases hne : n = n'
  · have Hne := Lib.hid hne
    have hne' : ((n : Int) != (n' : Int)) = false := by simp; omega
    clear hne
    go_enter Try.func21, Try.ntmps21
    go_wp2
    go_loopw [5] (fun iv wr => ∃ i : Nat, i ≤ n ∧ iv = .int .i64 i ∧ l.take i = m.take i ∧ Below w.heap.size w wr) (fun iv _ => n - (intOf iv).toNat)
    case atStart => exact ⟨0, by omega, rfl, by simp, Below.refl _ _⟩
    case round =>
      obtain ⟨i, hi, rfl, htk, hb⟩ := hrel
      have Htk := Lib.hid htk
      have Hb := Lib.hid hb
      clear htk hb
      by_cases hlt : i < n
      · have hlt' : (i : Int) < (n : Int) := by omega
        have hlt2 : (i : Int) < (n' : Int) := by have := Hne.out; omega
        have hi0 : (0 : Int) ≤ (i : Int) := by omega
        obtain ⟨s, hs⟩ : ∃ s, l[i]? = some s := ⟨_, List.getElem?_eq_getElem (by rw [Hn.out]; exact hlt)⟩
        obtain ⟨t, ht⟩ : ∃ t, m[i]? = some t := ⟨_, List.getElem?_eq_getElem (by rw [Hn'.out, ← Hne.out]; exact hlt)⟩
        obtain ⟨b, off, rfl, hbl, c0, c1⟩ := row_span Hr.out i s hs
        obtain ⟨b', off', rfl, hbl', c0', c1'⟩ := row_span Hr'.out i t ht
        have d0 := (Hb.out.cell (p := ⟨b, off + i * 2, none⟩) hbl).trans c0
        have d1 := (Hb.out.cell (p := ⟨b, off + i * 2 + 1, none⟩) hbl).trans c1
        have d2 := (Hb.out.cell (p := ⟨b', off' + i * 2, none⟩) hbl').trans c0'
        have d3 := (Hb.out.cell (p := ⟨b', off' + i * 2 + 1, none⟩) hbl').trans c1'
        have Hs := Lib.hid hs
        have Ht := Lib.hid ht
        clear c0 c1 c0' c1' hs ht
        have Hfal : Hid (s ≠ t → decide (l = m) = false) := Lib.hid (fun h => decide_eq_false (fun e => h (by
          have h1 := Hs.out
          rw [e, Ht.out] at h1
          exact (Option.some.inj h1).symm)))
        by_cases e1 : (bs s.1).toList = (bs t.1).toList
        · by_cases e2 : (bs s.2).toList = (bs t.2).toList
          · have Hst : Hid (l.take (i + 1) = m.take (i + 1)) := Lib.hid (by
              rw [bs_toList, bs_toList] at e1 e2
              rw [take_more l i s Hs.out, take_more m i t Ht.out, Htk.out, Prod.ext e1 e2])
            go_wp2_with fail
            go_quiet (fail)
            go_wp2
            go_roundw
            case rel => exact ⟨i + 1, by omega, by go_num, Hst.out, below_drewN Hb.out _⟩
            case measure => simp [intOf]; omega
          · have Hd : Hid (decide (l = m) = false) := Lib.hid (Hfal.out (fun e => e2 (by rw [e])))
            go_wp2_with fail
            go_quiet (fail)
            go_wp2
            go_ret
            exact ⟨by rw [Hd.out]; rfl, below_drewN Hb.out _⟩
        · have Hd : Hid (decide (l = m) = false) := Lib.hid (Hfal.out (fun e => e1 (by rw [e])))
          go_wp2_with fail
          go_quiet (fail)
          go_wp2
          go_ret
          exact ⟨by rw [Hd.out]; rfl, below_drewN Hb.out _⟩
      · have Hv : Hid (l = m) := Lib.hid (by
          have := Htk.out
          rw [List.take_of_length_le (by rw [Hn.out]; omega), List.take_of_length_le (by rw [Hn'.out, ← Hne.out]; omega)] at this
          exact this)
        have Hd : Hid (decide (l = m) = true) := Lib.hid (decide_eq_true Hv.out)
        go_wp2
        go_ret
        exact ⟨by rw [Hd.out]; rfl, Hb.out⟩
  · have hne' : ((n : Int) != (n' : Int)) = true := by simp; omega
    have Hd : Hid (decide (l = m) = false) := Lib.hid (decide_eq_false (fun e => hne (by rw [← Hn.out, ← Hn'.out, e])))
    clear hne
    go_enter Try.func21, Try.ntmps21
    go_wp2
    go_ret
    exact ⟨by rw [Hd.out]; rfl, Below.refl _ _⟩

/-- More than 40 spans, or a long text? -/
def shortS (s : Sp) : Bool := decide (s.1.length ≤ 1000 ∧ s.2.length ≤ 1000)
def smallL (l : List Sp) (more : List (List UInt8)) : Prop := l.length ≤ 40 ∧ (∀ s ∈ l, s.1.length ≤ 1000 ∧ s.2.length ≤ 1000) ∧ ∀ t ∈ more, t.length ≤ 1000
/-- What great tells. -/
def GreatGot (l : List Sp) (more : List (List UInt8)) (w : World) (e : Ending) (w' : World) : Prop :=
  ((e = .returned (.bool true) ∧ ¬ smallL l more) ∨ (e = .returned (.bool false) ∧ smallL l more)) ∧ Below w.heap.size w w'

set_option maxRecDepth 100000 in
set_option maxHeartbeats 4000000 in
theorem great_any (l : List Sp) (more : List (List UInt8)) (A A' : Option Addr) (n n' cap cap' : Nat) (w : World) (hn : l.length = n) (hn' : more.length = n') (hr : RowAt w A (spC l)) (hr' : RowAt w A' (strC more)) (hn3 : n' ≤ 1000) :
    Calls Try.prog 11 #[.slice A n cap, .slice A' n' cap'] w (GreatGot l more w) := by
  have Hr := Lib.hid hr
  have Hr' := Lib.hid hr'
  have Hn := Lib.hid hn
  have Hn' := Lib.hid hn'
  clear hr hr' hn hn'
  go_enter Try.func11, Try.ntmps11
  go_wp2
  go_loopw [9] (fun iv wr => ∃ i : Nat, i ≤ n ∧ i ≤ 40 ∧ iv = .int .i64 i ∧ (∀ s ∈ l.take i, s.1.length ≤ 1000 ∧ s.2.length ≤ 1000) ∧ Below w.heap.size w wr) (fun iv _ => n - (intOf iv).toNat)
  case atStart => exact ⟨0, by omega, by omega, rfl, by simp, Below.refl _ _⟩
  case round =>
    obtain ⟨i, hi, hi40, rfl, hall, hb⟩ := hrel
    have Hall := Lib.hid hall
    have Hb := Lib.hid hb
    clear hall hb
    by_cases hlt : i < n
    · have hlt' : (i : Int) < (n : Int) := by omega
      by_cases h40 : i = 40
      · have Hg : Hid (¬ smallL l more) := Lib.hid (fun h => by have := h.1; rw [Hn.out] at this; omega)
        have h40' : (40 : Int) ≤ (i : Int) := by omega
        clear h40
        go_wp2
        go_ret
        exact ⟨.inl ⟨rfl, Hg.out⟩, Hb.out⟩
      · have h40' : ¬ (40 : Int) ≤ (i : Int) := by omega
        obtain ⟨s, hs⟩ : ∃ s, l[i]? = some s := ⟨_, List.getElem?_eq_getElem (by rw [Hn.out]; exact hlt)⟩
        obtain ⟨b, off, rfl, hbl, c0, c1⟩ := row_span Hr.out i s hs
        have d0 := (Hb.out.cell (p := ⟨b, off + i * 2, none⟩) hbl).trans c0
        have d1 := (Hb.out.cell (p := ⟨b, off + i * 2 + 1, none⟩) hbl).trans c1
        have s1 : (bs s.1).size = s.1.length := bs_size _
        have s2 : (bs s.2).size = s.2.length := bs_size _
        have Hmem : Hid (s ∈ l) := Lib.hid (List.mem_of_getElem? hs)
        have Htk := Lib.hid (take_more l i s hs)
        clear c0 c1 hs
        by_cases h1 : 1000 < s.1.length
        · have Hg : Hid (¬ smallL l more) := Lib.hid (fun h => by have := (h.2.1 s Hmem.out).1; omega)
          have h1' : (1000 : Int) < (s.1.length : Int) := by omega
          go_wp2
          go_ret
          exact ⟨.inl ⟨rfl, Hg.out⟩, Hb.out⟩
        · have h1' : ¬ (1000 : Int) < (s.1.length : Int) := by omega
          by_cases h2 : 1000 < s.2.length
          · have Hg : Hid (¬ smallL l more) := Lib.hid (fun h => by have := (h.2.1 s Hmem.out).2; omega)
            have h2' : (1000 : Int) < (s.2.length : Int) := by omega
            go_wp2
            go_ret
            exact ⟨.inl ⟨rfl, Hg.out⟩, Hb.out⟩
          · have h2' : ¬ (1000 : Int) < (s.2.length : Int) := by omega
            have Hst : Hid (∀ t ∈ l.take (i + 1), t.1.length ≤ 1000 ∧ t.2.length ≤ 1000) := Lib.hid (fun t ht => by
              rw [Htk.out] at ht
              rcases List.mem_append.1 ht with h | h
              · exact Hall.out t h
              · obtain rfl : t = s := by simpa using h
                omega)
            go_wp2
            go_roundw
            case rel => exact ⟨i + 1, by omega, by omega, by go_num, Hst.out, Hb.out⟩
            case measure => simp [intOf]; omega
    · have hlt' : ¬ (i : Int) < (n : Int) := by omega
      have Hs1 : Hid (l.length ≤ 40 ∧ ∀ s ∈ l, s.1.length ≤ 1000 ∧ s.2.length ≤ 1000) := Lib.hid (by
        have := Hall.out
        rw [List.take_of_length_le (by rw [Hn.out]; omega)] at this
        exact ⟨by rw [Hn.out]; omega, this⟩)
      clear Hall
      go_wp2
      go_loopw [35] (fun iv wx => ∃ j : Nat, j ≤ n' ∧ iv = .int .i64 j ∧ (∀ t ∈ more.take j, t.length ≤ 1000) ∧ Below w.heap.size w wx) (fun iv _ => n' - (intOf iv).toNat)
      case atStart => exact ⟨0, by omega, rfl, by simp, Hb.out⟩
      case round =>
        obtain ⟨j, hj, rfl, hall, hb⟩ := hrel
        have Hall := Lib.hid hall
        have Hb2 := Lib.hid hb
        clear hall hb
        by_cases hjt : j < n'
        · have hjt' : (j : Int) < (n' : Int) := by omega
          obtain ⟨t, ht⟩ : ∃ t, more[j]? = some t := ⟨_, List.getElem?_eq_getElem (by rw [Hn'.out]; exact hjt)⟩
          obtain ⟨b, off, rfl, hbl, c0⟩ := row_str Hr'.out j t ht
          have d0 := (Hb2.out.cell (p := ⟨b, off + j, none⟩) hbl).trans c0
          have s1 : (bs t).size = t.length := bs_size _
          have Hmem : Hid (t ∈ more) := Lib.hid (List.mem_of_getElem? ht)
          have Htk := Lib.hid (take_more more j t ht)
          clear c0 ht
          by_cases h1 : 1000 < t.length
          · have Hg : Hid (¬ smallL l more) := Lib.hid (fun h => by have := h.2.2 t Hmem.out; omega)
            have h1' : (1000 : Int) < (t.length : Int) := by omega
            go_wp2
            go_ret
            exact ⟨.inl ⟨rfl, Hg.out⟩, Hb2.out⟩
          · have h1' : ¬ (1000 : Int) < (t.length : Int) := by omega
            have Hst : Hid (∀ x ∈ more.take (j + 1), x.length ≤ 1000) := Lib.hid (fun x hx => by
              rw [Htk.out] at hx
              rcases List.mem_append.1 hx with h | h
              · exact Hall.out x h
              · obtain rfl : x = t := by simpa using h
                omega)
            go_wp2
            go_roundw
            case rel => exact ⟨j + 1, by omega, by go_num, Hst.out, Hb2.out⟩
            case measure => simp [intOf]; omega
        · have hjt' : ¬ (j : Int) < (n' : Int) := by omega
          have Hg : Hid (smallL l more) := Lib.hid (by
            have := Hall.out
            rw [List.take_of_length_le (by rw [Hn'.out]; omega)] at this
            exact ⟨Hs1.out.1, Hs1.out.2, this⟩)
          go_wp2
          go_ret
          exact ⟨.inr ⟨rfl, Hg.out⟩, Hb2.out⟩
end Go.Proofs.Ytfjgikcbngfhmaa
