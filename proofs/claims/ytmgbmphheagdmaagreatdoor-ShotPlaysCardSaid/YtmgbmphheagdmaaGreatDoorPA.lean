/-
  What is played, in memory; the laws' great; the program's disk and the reference's side by side.
-/
import Derived.Test.YtmgbmphheagdmaaGreatDoorNX
namespace Go.Proofs.YtmgbmphheagdmaaGreatDoor
open Go.RowKit
set_option linter.unusedVariables false
set_option linter.unusedSimpArgs false

theorem plC_at : ∀ (l : List Pl) (i : Nat) (r : Pl) (k : Nat), l[i]? = some r → k < 8 → (l.flatMap plC)[i * 8 + k]? = (plC r)[k]?
  | [], i, r, k, h, _ => by simp at h
  | q :: l, 0, r, k, h, hk => by
    obtain rfl : q = r := by simpa using h
    rw [List.flatMap_cons, Nat.zero_mul, Nat.zero_add, List.getElem?_append_left (by simp [plC]; omega)]
  | q :: l, i + 1, r, k, h, hk => by
    have := plC_at l i r k (by simpa using h) hk
    rw [List.flatMap_cons, show (i + 1) * 8 + k = (plC q).length + (i * 8 + k) by simp [plC]; omega, List.getElem?_append_right (by omega), Nat.add_sub_cancel_left]
    exact this
theorem row_pl {w : World} {A : Option Addr} {l : List Pl} (h : RowAt w A (l.flatMap plC)) {i : Nat} {o : Pl} (hr : l[i]? = some o) : ∃ b off, A = some (⟨b, off, none⟩ : Addr) ∧ b < w.heap.size ∧
    (w.cell? ⟨b, off + i * 8, none⟩ = some (.int .i64 o.k) ∧ w.cell? ⟨b, off + i * 8 + 1, none⟩ = some (.int .i64 o.q.i) ∧ w.cell? ⟨b, off + i * 8 + 2, none⟩ = some (.int .i64 o.q.t) ∧ w.cell? ⟨b, off + i * 8 + 3, none⟩ = some (.string (bs o.q.d)) ∧
    w.cell? ⟨b, off + i * 8 + 4, none⟩ = some (.string (bs o.nm)) ∧ w.cell? ⟨b, off + i * 8 + 5, none⟩ = some (.string (bs o.b)) ∧ w.cell? ⟨b, off + i * 8 + 6, none⟩ = some (.int .i64 o.n) ∧ w.cell? ⟨b, off + i * 8 + 7, none⟩ = some (.slice o.A o.kl o.kc)) := by
  have g := fun k v (hk : k < 8) (hv : (plC o)[k]? = some v) => h (i * 8 + k) v ((plC_at l i o k hr hk).trans hv)
  obtain ⟨b, off, hA, hl, c0⟩ := g 0 _ (by omega) rfl
  have f : ∀ k v, k < 8 → (plC o)[k]? = some v → w.cell? ⟨b, off + i * 8 + k, none⟩ = some v := fun k v hk hv => by
    obtain ⟨b', off', hA', _, c⟩ := g k v hk hv
    rw [hA] at hA'; injection hA' with e; injection e with e1 e2; subst e1 e2
    rw [Nat.add_assoc]; exact c
  exact ⟨b, off, hA, hl, by simpa using c0, f 1 _ (by omega) rfl, f 2 _ (by omega) rfl, f 3 _ (by omega) rfl, f 4 _ (by omega) rfl, f 5 _ (by omega) rfl, f 6 _ (by omega) rfl, f 7 _ (by omega) rfl⟩
/-- What is played. -/
def SmallP (o : Pl) : Prop := o.q.d.length ≤ 140000 ∧ o.b.length ≤ 3000 ∧ o.nm.length ≤ 1000
def GreatP (l : List Pl) (w : World) (e : Ending) (w' : World) : Prop := (e = .returned (.bool true) ∨ (e = .returned (.bool false) ∧ l.length ≤ 40 ∧ ∀ o ∈ l, SmallP o)) ∧ Below w.heap.size w w'

set_option maxRecDepth 100000 in
set_option maxHeartbeats 2000000 in
theorem great_any (l : List Pl) (A : Option Addr) (n cap : Nat) (w : World) (hn : l.length = n) (hr : RowAt w A (l.flatMap plC)) (hn2 : n ≤ 9223372036854775807) : Calls Tryz.prog 9 #[.slice A n cap] w (GreatP l w) := by
  have Hn := Lib.hid hn
  have Hr := Lib.hid hr
  clear hn hr
  go_enter Tryz.func9, Tryz.ntmps9
  go_wp2
  go_loop [3, 6] (fun _ iv => ∃ i : Nat, i ≤ n ∧ i ≤ 40 ∧ iv = .int .i64 i ∧ (∀ o ∈ l.take i, SmallP o)) (fun _ iv => n - (intOf iv).toNat)
  case atStart => exact ⟨0, by omega, by omega, rfl, by simp⟩
  case round =>
    obtain ⟨i, hi, h2, rfl, hall⟩ := hrel
    have Hall := Lib.hid hall
    clear hall
    by_cases hlt : i < n
    · have hltz : (i : Int) < (n : Int) := by omega
      obtain ⟨o, ho⟩ : ∃ o, l[i]? = some o := ⟨_, List.getElem?_eq_getElem (by rw [Hn.out]; exact hlt)⟩
      obtain ⟨b, off, rfl, hbl, _, _, _, c3, c4, c5, _, _⟩ := row_pl Hr.out ho
      have Htk : Hid (l.take (i + 1) = l.take i ++ [o]) := Lib.hid (by rw [List.take_add_one, ho]; rfl)
      have e1 : (bs o.nm).size = o.nm.length := bs_size _
      have e2 : (bs o.b).size = o.b.length := bs_size _
      have e3 : (bs o.q.d).size = o.q.d.length := bs_size _
      clear ho
      by_cases h40 : i < 40
      · have hz : ¬ (40 : Int) ≤ (i : Int) := by omega
        by_cases hd : o.q.d.length ≤ 140000
        · have hdz : ¬ (140000 : Int) < (o.q.d.length : Int) := by omega
          by_cases hb : o.b.length ≤ 3000
          · have hbz : ¬ (3000 : Int) < (o.b.length : Int) := by omega
            by_cases hm : o.nm.length ≤ 1000
            · have hmz : ¬ (1000 : Int) < (o.nm.length : Int) := by omega
              go_wp2
              go_round
              case rel =>
                refine ⟨i + 1, by omega, by omega, by go_num, ?_⟩
                rw [Htk.out]
                intro x hx
                rcases List.mem_append.1 hx with hx | hx
                · exact Hall.out x hx
                · obtain rfl := List.mem_singleton.1 hx
                  exact ⟨hd, hb, hm⟩
              case measure => simp [intOf]; omega
            · have hmz : (1000 : Int) < (o.nm.length : Int) := by omega
              go_wp2
              go_ret
              exact ⟨.inl rfl, Below.refl _ _⟩
          · have hbz : (3000 : Int) < (o.b.length : Int) := by omega
            go_wp2
            go_ret
            exact ⟨.inl rfl, Below.refl _ _⟩
        · have hdz : (140000 : Int) < (o.q.d.length : Int) := by omega
          go_wp2
          go_ret
          exact ⟨.inl rfl, Below.refl _ _⟩
      · have hz : (40 : Int) ≤ (i : Int) := by omega
        go_wp2
        go_ret
        exact ⟨.inl rfl, Below.refl _ _⟩
    · obtain rfl : i = n := by omega
      have hltz : ¬ (i : Int) < (i : Int) := by omega
      have Hend : Hid (l.length ≤ 40 ∧ ∀ o ∈ l, SmallP o) := Lib.hid ⟨by rw [Hn.out]; exact h2, by have := Hall.out; rwa [List.take_of_length_le (by rw [Hn.out]; exact Nat.le_refl _)] at this⟩
      go_wp2
      go_ret
      exact ⟨.inr ⟨rfl, Hend.out⟩, Below.refl _ _⟩

theorem RefD.only {F : Nat → Prop} {w w' : World} {r : Nat} {v : Value} {s : St} (h : RefD w r v s) (ho : Only F w w') (hF : ∀ j, F j → j ≠ r ∧ v.ownBlock ≠ some j) : RefD w' r v s :=
  ⟨(ho.block r h.size (fun hr => (hF r hr).1 rfl)).trans h.box, own_only h.own ho fun j hj => (hF j hj).2⟩

/-- The program's disk and the reference's, both s, apart, in memory from B on. -/
structure Both (B : Nat) (w : World) (a : Addr) (F : Nat → Prop) (r : Nat) (v : Value) (s : St) : Prop where
  l : Lon B w a F s
  ref : RefD w r v s
  apart : ∀ k, F k → k ≠ r ∧ v.ownBlock ≠ some k
  base2 : B ≤ r
section
variable {B : Nat} {w w1 w2 : World} {a : Addr} {F F1 : Nat → Prop} {r : Nat} {v v2 : Value} {s s' : St}
theorem Both.below (h : Both B w a F r v s) (hb : Below w.heap.size w w1) : Both B w1 a F r v s := ⟨h.l.below hb, h.ref.below hb, h.apart, h.base2⟩
/-- First the program's disk, then the reference's. -/
theorem Both.step (h : Both B w a F r v s) (hl : Lon B w1 a F1 s') (ho : Only F w w1) (hg : ∀ k, F1 k → F k ∨ w.heap.size ≤ k) (hr : RefD w2 r v2 s') (ho2 : Only (Foot r v) w1 w2) (hg2 : ∀ k, v2.ownBlock = some k → v.ownBlock = some k ∨ w1.heap.size ≤ k) :
    Both B w2 a F1 r v2 s' ∧ Below B w w2 := by
  have hrl := h.ref.size
  have hB := h.l.lt
  have hfoot : ∀ k, F1 k → ¬ Foot r v k := fun k hk hf => by
    rcases hg k hk with h1 | h1
    · rcases hf with rfl | hf
      · exact (h.apart k h1).1 rfl
      · exact (h.apart k h1).2 hf
    · rcases hf with rfl | hf
      · omega
      · have := (h.ref.own.lt k hf).2; omega
  have hb2 : Below B w1 w2 := ho2.below (Nat.le_trans hB ho.size) fun k hk => by
    rcases hk with rfl | hk
    · exact h.base2
    · have := (h.ref.own.lt k hk).1; have := h.base2; omega
  refine ⟨⟨⟨good.stay hl.d ho2.size fun k hk => ho2.block k (good.foot hl.d k hk) (hfoot k hk), hl.base, hl.tab.on hb2, Nat.le_trans hl.lt hb2.size⟩, hr, fun k hk => ⟨fun e => hfoot k hk (.inl e), fun e => ?_⟩, h.base2⟩, (ho.below hB h.l.base).trans hb2⟩
  rcases hg2 k e with h1 | h1
  · exact hfoot k hk (.inr h1)
  · have := good.foot hl.d k hk; omega
/-- The program's disk alone. -/
theorem Both.looked (h : Both B w a F r v s) (hl : Lon B w1 a F1 s) (ho : Only F w w1) (hg : ∀ k, F1 k → F k ∨ w.heap.size ≤ k) : Both B w1 a F1 r v s ∧ Below B w w1 :=
  h.step hl ho hg (h.ref.only ho h.apart) (Only.refl _ _) fun _ hk => .inl hk
/-- A block that neither touches. -/
def Box2 (w : World) (F : Nat → Prop) (r : Nat) (v : Value) (g : Nat) (t : TypeId) (cs : List Value) : Prop := Holds w g t cs ∧ ¬ F g ∧ ¬ Foot r v g
theorem Both.new (h : Both B w a F r v s) (xs : Array Value) (t : TypeId) : Box2 (w.alloc (.cells xs t)) F r v w.heap.size t xs.toList :=
  ⟨Holds.new w t xs, fun hf => by have := good.foot h.l.d _ hf; omega, fun hf => by
    rcases hf with e | hf
    · have := h.ref.size; omega
    · have := (h.ref.own.lt _ hf).2; omega⟩
variable {g : Nat} {t : TypeId} {cs : List Value}
theorem Box2.prog (h : Box2 w F r v g t cs) (ho : Only F w w1) (hg : ∀ k, F1 k → F k ∨ w.heap.size ≤ k) : Box2 w1 F1 r v g t cs :=
  ⟨(ho.block g h.1.lt h.2.1).trans h.1, fun hf => (hg g hf).elim h.2.1 (fun h1 => by have := h.1.lt; omega), h.2.2⟩
theorem Box2.refd (h : Box2 w F r v g t cs) (ho : Only (Foot r v) w w1) (hg : ∀ k, v2.ownBlock = some k → v.ownBlock = some k ∨ w.heap.size ≤ k) : Box2 w1 F r v2 g t cs :=
  ⟨(ho.block g h.1.lt h.2.2).trans h.1, h.2.1, fun hf => by
    rcases hf with e | hf
    · exact h.2.2 (.inl e)
    · rcases hg g hf with h1 | h1
      · exact h.2.2 (.inr h1)
      · have := h.1.lt; omega⟩
theorem Box2.below (h : Box2 w F r v g t cs) (hb : Below w.heap.size w w1) : Box2 w1 F r v g t cs := ⟨h.1.below hb h.1.lt, h.2.1, h.2.2⟩
end
theorem ref_kept {x : Value} {r : Nat} {v : Value} {s' : St} {w : World} {f : Nat} {args : Array Value} (h : Calls Tryz.prog f args w fun e w' => e = .returned x ∧ RefD w' r v s' ∧ Only (Foot r v) w w') : Calls Tryz.prog f args w (RefRet x r v s' w) :=
  h.mono fun _ _ ⟨he, hr, ho⟩ => ⟨he, v, hr, ho, fun _ hk => .inl hk⟩
theorem run_max_of (n c : Int) (W : World) : (Builtin.max_ #[3, 3] 3 #[.int .i64 n, .int .i64 c]).run Tryz.prog W = .ok (.int .i64 (max n c)) W := by
  by_cases h : n < c
  · rw [Int.max_eq_right (by omega)]; simp [Builtin.max_, Builtin.max2, h]
  · rw [Int.max_eq_left (by omega)]; simp [Builtin.max_, Builtin.max2, h]
end Go.Proofs.YtmgbmphheagdmaaGreatDoor
