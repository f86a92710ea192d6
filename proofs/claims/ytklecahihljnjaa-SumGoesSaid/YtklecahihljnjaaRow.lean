/-
  What the shells of the proofs hand on of a slice that came in, in the words of the contracts.
-/
import Derived.Test.YtklecahihljnjaaSumB
namespace Go.Proofs.Ytklecahihljnjaa
open Go.RowKit

theorem wf_u8 {n : Int} (h : (Lit.int .u8 n).wf = true) : 0 ≤ n ∧ n < 256 := by
  simp [Lit.wf, IntKind.min, IntKind.max, IntKind.signed, IntKind.bits] at h; omega
theorem wf_u32 {n : Int} (h : (Lit.int .u32 n).wf = true) : 0 ≤ n ∧ n < 4294967296 := by
  simp [Lit.wf, IntKind.min, IntKind.max, IntKind.signed, IntKind.bits] at h; omega
theorem wf_i64 {n : Int} (h : (Lit.int .i64 n).wf = true) : -9223372036854775808 ≤ n ∧ n ≤ 9223372036854775807 := by
  simp [Lit.wf, IntKind.min, IntKind.max, IntKind.signed, IntKind.bits] at h; omega
theorem cells_open {k : IntKind} {w : World} {x : Addr} {cap : Nat} {zs : List Int} (hz : zs.length = cap)
    (hcell : ∀ i, i < zs.length → w.cell? (x.add i) = some (.int k (zs.getD i 0))) (h0 : 0 < cap) :
    ∃ b off, x = ⟨b, off, none⟩ ∧ ∀ i, i < cap → w.cell? ⟨b, off + i, none⟩ = some (.int k (zs.getD i 0)) := by
  obtain ⟨b, off, spot⟩ := x
  have hc := hcell 0 (by omega)
  have hspot : spot = none := by simpa [Addr.add] using World.cell?_spot hc
  subst hspot
  refine ⟨b, off, rfl, fun i hi => ?_⟩
  have := hcell i (by omega)
  by_cases h : i = 0
  · subst h; simpa [Addr.add] using this
  · simpa [Addr.add, h] using this

/-- The row of bytes that came in, as its first 'len' cells read. -/
theorem row8_of {w : World} {x : Addr} {len cap : Nat} {zs : List Int} (hz : zs.length = cap) (hl : len ≤ cap) (hmax : len ≤ 140737488351232)
    (hcell : ∀ i, i < zs.length → w.cell? (x.add i) = some (.int .u8 (zs.getD i 0))) (hwf : ∀ n ∈ zs, (Lit.int .u8 n).wf = true) :
    Row8 w (some x) (zs.take len) := by
  refine ⟨fun c hc => wf_u8 (hwf c (List.mem_of_mem_take hc)), by simp; omega, ?_⟩
  by_cases h0 : len = 0
  · left; subst h0; simp
  · right
    obtain ⟨b, off, rfl, hc⟩ := cells_open hz hcell (by omega)
    refine ⟨b, off, rfl, fun i hi => ?_⟩
    have hi' : i < len := by simp at hi; omega
    rw [hc i (by omega), List.getD_eq_getElem?_getD, List.getD_eq_getElem?_getD, List.getElem?_take_of_lt hi']
theorem ints_of {w : World} {x : Addr} {len cap : Nat} {zs : List Int} (hz : zs.length = cap) (hl : len ≤ cap)
    (hcell : ∀ i, i < zs.length → w.cell? (x.add i) = some (.int .i64 (zs.getD i 0))) (hwf : ∀ n ∈ zs, (Lit.int .i64 n).wf = true) :
    ∀ i, i < len → ∃ b' off', some x = some (⟨b', off', none⟩ : Addr) ∧ ∃ c : Int, w.cell? ⟨b', off' + i, none⟩ = some (.int .i64 c) ∧ -9223372036854775808 ≤ c ∧ c ≤ 9223372036854775807 := by
  intro i hi
  obtain ⟨b, off, rfl, hc⟩ := cells_open hz hcell (by omega)
  have hi' : i < zs.length := by omega
  have hm : zs.getD i 0 ∈ zs := by rw [List.getD_eq_getElem?_getD, List.getElem?_eq_getElem hi']; simp
  exact ⟨b, off, rfl, _, hc i (by omega), wf_i64 (hwf _ hm)⟩
end Go.Proofs.Ytklecahihljnjaa
