/-
  How much a disk can hold behind a step (pure).
-/
import Derived.Test.YtbgfkjafablfiaaTK
namespace Go.Proofs.Ytbgfkjafablfiaa
open Go.RowKit

theorem usedL_modify (g : Fl → Fl) (c : Nat) (hg : ∀ f, sizeF (g f) ≤ sizeF f + c) : ∀ (l : List Fl) (i : Nat), usedL (l.modify i g) ≤ usedL l + c
  | [], i => by simp [usedL]
  | f :: l, 0 => by
    have := hg f
    simp only [List.modify_zero_cons, usedL]; omega
  | f :: l, i + 1 => by
    have := usedL_modify g c hg l i
    simp only [List.modify_succ_cons, usedL]; omega
theorem usedL_split (l : List Fl) (k : Nat) : usedL (l.take k) + usedL (l.drop k) = usedL l := by
  rw [← usedL_append, List.take_append_drop]
theorem put_used (nm b : List UInt8) (l : List Fl) : usedL (putF nm b l) ≤ usedL l + b.length ∧ (putF nm b l).length ≤ l.length + 1 := by
  unfold putF
  cases h : atN nm l with
  | some i =>
    refine ⟨usedL_modify _ _ (fun f => ?_) _ _, ?_⟩
    · unfold sizeF; simp only [List.length_append]; omega
    · rw [List.length_modify]; omega
  | none =>
    have h1 := usedL_split l (placeL nm l)
    have h2 := place_le nm l
    refine ⟨?_, ?_⟩
    · rw [usedL_append, usedL_append]
      simp only [usedL, sizeF, List.length_nil]
      omega
    · simp only [List.length_append, List.length_take, List.length_drop, List.length_cons, List.length_nil]; omega
theorem crash_used (keep : List Int) : ∀ (l : List Fl) (n : Nat), usedL (crashL keep n l) ≤ usedL l
  | [], _ => Nat.le_refl _
  | f :: l, n => by
    unfold crashL
    split
    · have := crash_used keep l n
      simp only [usedL, sizeF, List.length_nil]; omega
    · have := crash_used keep l (n + 1)
      simp only [usedL, sizeF, List.length_nil, List.length_append, List.length_take]; omega
/-- What a step may add. -/
structure Grows (s s' : St) (c : Nat) : Prop where
  used : usedL s'.files ≤ usedL s.files + c
  len : s'.files.length ≤ s.files.length + 1
  room0 : 0 ≤ s.room → 0 ≤ s'.room
  room1 : s.room ≤ 8388608 → s'.room ≤ 8388608
  fuse0 : -1 ≤ s.fuse → -1 ≤ s'.fuse
  fuse1 : s.fuse ≤ 9223372036854775807 → s'.fuse ≤ 9223372036854775807
theorem Grows.refl (s : St) (c : Nat) : Grows s s c := ⟨by omega, by omega, id, id, id, id⟩
theorem burn_grows (s : St) (c : Nat) (l : List Fl) (h1 : usedL l ≤ usedL s.files + c) (h2 : l.length ≤ s.files.length + 1) : Grows s { burnS s with files := l } c :=
  ⟨h1, h2, id, id, fun h => by show -1 ≤ (if 0 < s.fuse then s.fuse - 1 else s.fuse); split <;> omega, fun h => by show (if 0 < s.fuse then s.fuse - 1 else s.fuse) ≤ _; split <;> omega⟩
theorem burn_grows0 (s : St) (c : Nat) : Grows s (burnS s) c := burn_grows s c s.files (by omega) (by omega)
theorem append_grows (nm b : List UInt8) (s : St) : Grows s (appendS nm b s).2 b.length := by
  unfold appendS
  split
  · exact Grows.refl _ _
  · split
    · exact Grows.refl _ _
    · split
      · exact Grows.refl _ _
      · split
        · exact burn_grows0 _ _
        · exact burn_grows _ _ _ (put_used nm b s.files).1 (put_used nm b s.files).2
theorem on_grows (nm : List UInt8) (bad : Nat → Option Int) (g : Nat → List Fl → List Fl) (s : St) (c : Nat) (h : ∀ i, usedL (g i s.files) ≤ usedL s.files ∧ (g i s.files).length ≤ s.files.length) : Grows s (onS nm bad g s).2 c := by
  unfold onS
  split
  · exact Grows.refl _ _
  · cases atN nm s.files with
    | none => exact Grows.refl _ _
    | some i =>
      simp only
      cases bad i with
      | some e => exact Grows.refl _ _
      | none =>
        simp only
        split
        · exact burn_grows0 _ _
        · have := h i
          exact burn_grows _ _ _ (by omega) (by omega)
theorem step_grows (k : Int) (nm b : List UInt8) (n : Int) (keep : List Int) (s : St) (hn : I64 n) : Grows s (stepS k nm b n keep s) b.length := by
  unfold stepS
  split
  · exact append_grows nm b s
  · split
    · exact on_grows _ _ _ _ _ fun i => ⟨usedL_modify _ 0 (fun f => by unfold syncF sizeF; simp only [List.length_append, List.length_nil]; omega) _ _, by rw [List.length_modify]; exact Nat.le_refl _⟩
    · split
      · exact on_grows _ _ _ _ _ fun i => ⟨usedL_modify _ 0 (fun f => by unfold cutF sizeF; simp only [List.length_take, List.length_drop, List.length_append]; omega) _ _, by rw [List.length_modify]; exact Nat.le_refl _⟩
      · split
        · exact on_grows _ _ _ _ _ fun i => ⟨by
            have h1 := usedL_split s.files i
            have h2 := usedL_split (s.files.drop i) 1
            rw [List.drop_drop] at h2
            rw [usedL_append]; omega, by simp only [List.length_append, List.length_take, List.length_drop]; omega⟩
        · split
          · exact Grows.refl _ _
          · split
            · exact ⟨by show usedL s.files ≤ _; omega, by show s.files.length ≤ _; omega, id, id, fun _ => by show -1 ≤ max n (-1); omega, fun _ => by have := hn.2; show max n (-1) ≤ _; omega⟩
            · split
              · unfold roomS
                split
                · rename_i h
                  exact ⟨by show usedL s.files ≤ _; omega, by show s.files.length ≤ _; omega, fun _ => h.1, fun _ => h.2, id, id⟩
                · exact Grows.refl _ _
              · split
                · exact ⟨by show usedL (crashL keep 0 s.files) ≤ _; have := crash_used keep s.files 0; omega, by show (crashL keep 0 s.files).length ≤ _; rw [crashL_length]; omega, id, id, fun _ => by show (-1 : Int) ≤ -1; omega, fun _ => by show (-1 : Int) ≤ _; omega⟩
                · exact Grows.refl _ _
/-- A disk into which at most u bytes went, by at most i steps. -/
structure Most (s : St) (u i : Nat) : Prop where
  used : usedL s.files ≤ u
  len : s.files.length ≤ i
  room0 : 0 ≤ s.room
  room1 : s.room ≤ 8388608
  fuse0 : -1 ≤ s.fuse
  fuse1 : s.fuse ≤ 9223372036854775807
theorem Most.fit {s : St} {u i : Nat} (h : Most s u i) (hu : u ≤ 1000000000) (hi : i ≤ 1000000) : Fit s :=
  ⟨h.room0, h.room1, h.fuse0, h.fuse1, Nat.le_trans h.used hu, Nat.le_trans h.len hi⟩
theorem Most.grows {s s' : St} {u i c : Nat} (h : Most s u i) (g : Grows s s' c) : Most s' (u + c) (i + 1) :=
  ⟨by have := g.used; have := h.used; omega, by have := g.len; have := h.len; omega, g.room0 h.room0, g.room1 h.room1, g.fuse0 h.fuse0, g.fuse1 h.fuse1⟩
theorem most_new (room : Int) (h0 : 0 ≤ room) (h1 : room ≤ 8388608) : Most (newS room) 0 0 :=
  ⟨Nat.le_refl _, Nat.le_refl _, h0, h1, by show (-1 : Int) ≤ -1; omega, by show (-1 : Int) ≤ _; omega⟩
end Go.Proofs.Ytbgfkjafablfiaa
