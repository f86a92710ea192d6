/-
  append(l, make([]bool, 32)...) to a row of the call's own: 32 times false behind it.
-/
import Derived.Test.YtmgbmphheagdmaaGreatDoorHA
namespace Go.Proofs.YtmgbmphheagdmaaGreatDoor
open Go.RowKit
set_option maxRecDepth 100000

theorem zero32 : (Builtin.zeroCells #[Value.bool false] 32) = (List.replicate 32 (Value.bool false)).toArray := by kernel_rfl

theorem run_append_false (w : World) (ty : TypeId) (base g n cap : Nat) (xs : List Value) (hown : w.ownsRow base 4 1 (.slice (some ⟨g, 0, none⟩) n cap) n xs)
    (hn : n ≤ 100000000) (hbase : base ≤ w.heap.size) :
    ∃ c w', (Builtin.append_ #[133, 3] ty #[.slice (some ⟨g, 0, none⟩) n cap, .int .i64 32]).run Tryz.prog w = .ok c w' ∧ w'.ownsRow base 4 1 c (n + 32) (xs ++ List.replicate 32 (.bool false)) ∧ w.grownBy w' (some g) ∧ c ≠ .slice none 0 0 := by
  obtain ⟨i0, hi0, hz0, hz1, hz2⟩ := info_parts info4
  have holds : ∀ j u, xs[j]? = some u → w.cell? ((⟨g, 0, none⟩ : Addr).add j) = some u := hown.cells (g := g) rfl
  have hlx : xs.length = n * 1 := hown.1
  rcases hown.2 with ⟨h', _⟩ | ⟨g', cap', cur, h', hbg, hg, hnc, hcm, hcs, htake⟩
  · simp at h'
  simp only [Value.slice.injEq, Option.some.injEq, Addr.mk.injEq, and_true, true_and] at h'
  obtain ⟨rfl, rfl⟩ := h'
  have hw32 : IntKind.i64.wrap 32 = 32 := by decide
  obtain ⟨F, hF⟩ : ∃ F, List.replicate 32 (Value.bool false) = F := ⟨_, rfl⟩
  have hFl : F.length = 32 := by rw [← hF]; simp
  have hF1 : ∀ u ∈ F, u.oneCell' = true := by intro v hv; rw [← hF] at hv; rw [List.eq_of_mem_replicate hv]; rfl
  have hz32 : Builtin.zeroCells #[Value.bool false] 32 = F.toArray := by rw [← hF]; exact zero32
  rw [hF]
  have hlen : (xs ++ F).length = (n + 32) * 1 := by rw [List.length_append, hlx, hFl]; omega
  by_cases hroom : n + 32 ≤ cap
  · have hst := run_storeCells_at Tryz.prog g (n * 1) 4 F 0 cur w hg (by omega) hF1
    simp only [Nat.add_zero, Nat.mul_one] at hst
    refine ⟨.slice (some ⟨g, 0, none⟩) (n + 32) cap, w.setRow g (cur.toList.take n ++ F ++ cur.toList.drop (n + F.length)).toArray, ?_, ⟨hlen, .inr ⟨g, cap, _, rfl, hbg, setRow_heap w g cur _ 4 _ hg, hroom, hcm, ?_, ?_⟩⟩,
      ⟨rfl, rfl, rfl, by simp, fun k _ hk => setRow_other w g k _ (fun e => hk (by simp [e]))⟩, by simp⟩
    · simp [Builtin.append_, run_underlying Tryz.underlying133, run_underlying Tryz.underlying3, sizeOf, typeInfo, zeroValue, asInt, asIntOf, hi0, hz0, hz1, hz2, hroom, hw32, Value.cells, hz32, Addr.add_lit, hst]
    · simp only [List.size_toArray, List.length_append, List.length_take, List.length_drop, Array.length_toList]
      omega
    · rw [Nat.mul_one] at htake
      rw [htake, ← hlen]
      exact List.take_left
  · have hge := grownCap_ge w (n + 32) cap 4
    have hcm' : grownCap w (n + 32) cap 4 ≤ maxLen := grownCap_le_maxLen w (n + 32) cap 4 (by unfold maxLen; omega)
    have hmax : max (32 : Int) 0 = 32 := by decide
    have h63 : ¬ (9223372036854775807 < (n : Int) + 32) := by omega
    have hfit := growslice_fits (need := n + 32) (old := cap) (bytes := 1) (by omega) (by omega)
    have h48 : ¬ (281474976710656 < Builtin.nextslicecap (n + 32) cap) := by omega
    have hfo := run_firstCells_some (P := Tryz.prog) w.drew 1 n ⟨g, 0, none⟩ n cap xs hlx (by simpa using holds)
    refine ⟨.slice (some ⟨w.heap.size, 0, none⟩) (n + 32) (grownCap w (n + 32) cap 4), w.drew.alloc (.cells ((xs ++ F).toArray ++ Builtin.zeroCells #[Value.bool false] (grownCap w (n + 32) cap 4 - (n + 32))) 4), ?_,
      ⟨hlen, .inr ⟨w.heap.size, _, _, rfl, hbase, heap_alloc_new w.drew _, hge, hcm', ?_, ?_⟩⟩, ⟨rfl, rfl, rfl, by simp, fun k hk _ => Below.heap_alloc w.drew _ k hk⟩, by simp⟩
    · simp [Builtin.append_, run_underlying Tryz.underlying133, run_underlying Tryz.underlying3, sizeOf, typeInfo, zeroValue, asInt, asIntOf, hi0, hz0, hz1, hz2, hroom, hw32, Value.cells, hz32, Question.forced, hfo, newRow, grownCap, hmax, h63, h48]
      congr 2
      apply Array.ext'
      simp [List.append_assoc]
    · have h1 : (#[Value.bool false] : Array Value).size = 1 := rfl
      rw [Array.size_append, size_zeroCells, h1, List.size_toArray, hlen]
      omega
    · rw [Array.toList_append, List.toList_toArray, ← hlen]
      exact List.take_left

theorem wp_append_false (w : World) {o : Oper} {a : Act} {K : Act → World → Prop} {Q : Exit → Act → World → Prop} (s : Operand)
    (ho : o.op = .call { callee := .builtin .append, args := #[s, .const (.int .i64 32)], argTypes := #[133, 3] })
    (base g n cap : Nat) (xs : List Value) (hs : a.eval s = .slice (some ⟨g, 0, none⟩) n cap) (hown : w.ownsRow base 4 1 (.slice (some ⟨g, 0, none⟩) n cap) n xs)
    (hn : n ≤ 100000000) (hbase : base ≤ w.heap.size)
    (h : ∀ c w', w'.ownsRow base 4 1 c (n + 32) (xs ++ List.replicate 32 (.bool false)) → w.grownBy w' (some g) → c ≠ .slice none 0 0 → K (a.put o.dst c) w') : o.wp Tryz.prog a w K Q := by
  obtain ⟨c, w', hr, h2, h3, h4⟩ := run_append_false w o.type base g n cap xs hown hn hbase
  have he : a.eval (.const (.int .i64 32)) = .int .i64 32 := rfl
  unfold Oper.wp execOp
  simp only [ho, resolve, invoke, builtin, Sem.run_bind, Sem.run_pure, Result.andThen_ok, List.map_toArray, List.map_cons, List.map_nil, hs, he, hr]
  exact h c w' h2 h3 h4

theorem wpList_append_false (w : World) {ops : Array Oper} {rest : List Oper} {o : Oper} {a : Act} {Q : Exit → Act → World → Prop} (hgd : o.guard = none) (s : Operand)
    (ho : o.op = .call { callee := .builtin .append, args := #[s, .const (.int .i64 32)], argTypes := #[133, 3] })
    (base g n cap : Nat) (xs : List Value) (hs : a.eval s = .slice (some ⟨g, 0, none⟩) n cap) (hown : w.ownsRow base 4 1 (.slice (some ⟨g, 0, none⟩) n cap) n xs)
    (hn : n ≤ 100000000) (hbase : base ≤ w.heap.size)
    (h : ∀ c w', w'.ownsRow base 4 1 c (n + 32) (xs ++ List.replicate 32 (.bool false)) → w.grownBy w' (some g) → c ≠ .slice none 0 0 → wpList Tryz.prog ops Q rest (a.put o.dst c) w') : wpList Tryz.prog ops Q (o :: rest) a w :=
  wpList_plain hgd fun _ hK => wp_append_false w s ho base g n cap xs hs hown hn hbase fun c w' h2 h3 h4 => hK _ _ (h c w' h2 h3 h4)
end Go.Proofs.YtmgbmphheagdmaaGreatDoor
