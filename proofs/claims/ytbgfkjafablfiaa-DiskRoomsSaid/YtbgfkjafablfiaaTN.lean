/-
  Scripts of ops in memory; the contract of the laws' great.
-/
import Derived.Test.YtbgfkjafablfiaaTM
namespace Go.Proofs.Ytbgfkjafablfiaa
open Go.RowKit

/-- An op as it lies in memory: its numbers to keep lie elsewhere. -/
structure Oo where
  k : Int
  nm : List UInt8
  b : List UInt8
  n : Int
  A : Option Addr
  kl : Nat
  kc : Nat
def opC (l : List Oo) : List Value := l.flatMap fun o => [.int .i64 o.k, .string (bs o.nm), .string (bs o.b), .int .i64 o.n, .slice o.A o.kl o.kc]
theorem opC_cons (o : Oo) (l : List Oo) : opC (o :: l) = .int .i64 o.k :: .string (bs o.nm) :: .string (bs o.b) :: .int .i64 o.n :: .slice o.A o.kl o.kc :: opC l := rfl
theorem opC_at : ∀ (l : List Oo) (i : Nat) (o : Oo), l[i]? = some o → (opC l)[i * 5]? = some (.int .i64 o.k) ∧ (opC l)[i * 5 + 1]? = some (.string (bs o.nm)) ∧ (opC l)[i * 5 + 2]? = some (.string (bs o.b)) ∧ (opC l)[i * 5 + 3]? = some (.int .i64 o.n) ∧ (opC l)[i * 5 + 4]? = some (.slice o.A o.kl o.kc)
  | [], i, o, h => by simp at h
  | g :: l, 0, o, h => by
    obtain rfl : g = o := by simpa using h
    exact ⟨rfl, rfl, rfl, rfl, rfl⟩
  | g :: l, i + 1, o, h => by
    have := opC_at l i o (by simpa using h)
    rw [opC_cons, show (i + 1) * 5 = i * 5 + 1 + 1 + 1 + 1 + 1 by omega]
    simpa using this
theorem row_op {w : World} {A : Option Addr} {l : List Oo} (h : RowAt w A (opC l)) (i : Nat) (o : Oo) (ho : l[i]? = some o) :
    ∃ b off, A = some (⟨b, off, none⟩ : Addr) ∧ b < w.heap.size ∧ w.cell? ⟨b, off + i * 5, none⟩ = some (.int .i64 o.k) ∧ w.cell? ⟨b, off + i * 5 + 1, none⟩ = some (.string (bs o.nm)) ∧ w.cell? ⟨b, off + i * 5 + 2, none⟩ = some (.string (bs o.b)) ∧ w.cell? ⟨b, off + i * 5 + 3, none⟩ = some (.int .i64 o.n) ∧ w.cell? ⟨b, off + i * 5 + 4, none⟩ = some (.slice o.A o.kl o.kc) := by
  obtain ⟨c0, c1, c2, c3, c4⟩ := opC_at l i o ho
  obtain ⟨b, off, rfl, hl, h0⟩ := h _ _ c0
  have f : ∀ j x, (opC l)[j]? = some x → w.cell? ⟨b, off + j, none⟩ = some x := fun j x hx => by
    obtain ⟨b', off', hA, _, hc⟩ := h _ _ hx
    injection hA with hA
    injection hA with e1 e2
    subst e1 e2
    exact hc
  exact ⟨b, off, rfl, hl, h0, f _ _ c1, f _ _ c2, f _ _ c3, f _ _ c4⟩
def totalB : List Oo → Nat
  | [] => 0
  | o :: l => o.b.length + totalB l
theorem totalB_append (l m : List Oo) : totalB (l ++ m) = totalB l + totalB m := by
  induction l with
  | nil => simp [totalB]
  | cons o l ih => simp only [List.cons_append, totalB, ih]; omega
/-- What is played. -/
def SmallS (l : List Oo) : Prop := l.length ≤ 200 ∧ (∀ o ∈ l, o.b.length ≤ 5000 ∧ o.nm.length ≤ 1000) ∧ totalB l ≤ 20000
def GreatRet (l : List Oo) (w : World) (e : Ending) (w' : World) : Prop := (e = .returned (.bool true) ∨ (e = .returned (.bool false) ∧ SmallS l)) ∧ w' = w

set_option maxRecDepth 100000 in
set_option maxHeartbeats 2000000 in
theorem great6_any (l : List Oo) (A : Option Addr) (n cap : Nat) (w : World) (hn : l.length = n) (hr : RowAt w A (opC l)) (hn2 : n ≤ 9223372036854775807) : Calls Try.prog 11 #[.slice A n cap] w (GreatRet l w) := by
  have Hn := Lib.hid hn
  have Hr := Lib.hid hr
  clear hn hr
  go_enter Try.func11, Try.ntmps11
  go_wp2
  go_loop [3, 7] (fun nv iv => ∃ i : Nat, i ≤ n ∧ i ≤ 200 ∧ iv = .int .i64 i ∧ nv = .int .i64 (totalB (l.take i) : Nat) ∧ totalB (l.take i) ≤ 20000 ∧ (∀ o ∈ l.take i, o.b.length ≤ 5000 ∧ o.nm.length ≤ 1000)) (fun _ iv => n - (intOf iv).toNat)
  case atStart => exact ⟨0, by omega, by omega, rfl, by simp [totalB], by simp [totalB], by simp⟩
  case round =>
    obtain ⟨i, hi, h2, rfl, rfl, ht, hall⟩ := hrel
    have Hall := Lib.hid hall
    clear hall
    by_cases hlt : i < n
    · have hltz : (i : Int) < (n : Int) := by omega
      obtain ⟨o, ho⟩ : ∃ o, l[i]? = some o := ⟨_, List.getElem?_eq_getElem (by rw [Hn.out]; exact hlt)⟩
      obtain ⟨b, off, rfl, hbl, _, c1, c2, _, _⟩ := row_op Hr.out i o ho
      have Htk : Hid (l.take (i + 1) = l.take i ++ [o]) := Lib.hid (by rw [List.take_add_one, ho]; rfl)
      have e1 : (bs o.nm).size = o.nm.length := bs_size _
      have e2 : (bs o.b).size = o.b.length := bs_size _
      have Htt : Hid (totalB (l.take (i + 1)) = totalB (l.take i) + o.b.length) := Lib.hid (by rw [Htk.out, totalB_append]; simp [totalB])
      generalize totalB (l.take i) = t at *
      clear ho
      by_cases h200 : i < 200
      · have hz : ¬ (200 : Int) ≤ (i : Int) := by omega
        by_cases hb : o.b.length ≤ 5000
        · have hbz : ¬ (5000 : Int) < (o.b.length : Int) := by omega
          by_cases hm : o.nm.length ≤ 1000
          · have hmz : ¬ (1000 : Int) < (o.nm.length : Int) := by omega
            by_cases hs : t + o.b.length ≤ 20000
            · have hsz : ¬ (20000 : Int) < (t : Int) + (o.b.length : Int) := by omega
              go_wp2
              go_round
              case rel =>
                refine ⟨i + 1, by omega, by omega, by go_num, by rw [Htt.out]; go_num, by rw [Htt.out]; omega, ?_⟩
                rw [Htk.out]
                intro x hx
                rcases List.mem_append.1 hx with hx | hx
                · exact Hall.out x hx
                · obtain rfl := List.mem_singleton.1 hx
                  exact ⟨hb, hm⟩
              case measure => simp [intOf]; omega
            · have hsz : (20000 : Int) < (t : Int) + (o.b.length : Int) := by omega
              go_wp2
              go_ret
              exact ⟨.inl rfl, rfl⟩
          · have hmz : (1000 : Int) < (o.nm.length : Int) := by omega
            go_wp2
            go_ret
            exact ⟨.inl rfl, rfl⟩
        · have hbz : (5000 : Int) < (o.b.length : Int) := by omega
          go_wp2
          go_ret
          exact ⟨.inl rfl, rfl⟩
      · have hz : (200 : Int) ≤ (i : Int) := by omega
        go_wp2
        go_ret
        exact ⟨.inl rfl, rfl⟩
    · have hltz : ¬ (i : Int) < (n : Int) := by omega
      have Htk : Hid (l.take i = l) := Lib.hid (List.take_of_length_le (by rw [Hn.out]; omega))
      have Hs : Hid (SmallS l) := Lib.hid ⟨by rw [Hn.out]; omega, by rw [← Htk.out]; exact Hall.out, by rw [← Htk.out]; exact ht⟩
      go_wp2
      go_ret
      exact ⟨.inr ⟨rfl, Hs.out⟩, rfl⟩
end Go.Proofs.Ytbgfkjafablfiaa
