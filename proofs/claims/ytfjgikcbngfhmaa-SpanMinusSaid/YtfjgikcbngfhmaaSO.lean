/-
  What the laws ask of the program's own functions, as one structure; awake and SpanUnions walked by it.
-/
import Derived.Test.YtfjgikcbngfhmaaSM
namespace Go.Proofs.Ytfjgikcbngfhmaa
open Go.RowKit

/-- What a function that answers spans leaves. -/
def SpRet (m : List Sp) (w : World) (e : Ending) (w' : World) : Prop :=
  (∃ A n cap, e = .returned (.slice A n cap) ∧ m.length = n ∧ RowAt w' A (spC m)) ∧ Below w.heap.size w w'
/-- The program's own functions answer what the document says. -/
structure Good : Prop where
  right : ∀ (s : Sp) (w : World), Calls Try.prog 12 #[spV s] w fun e w' => e = .returned (.bool (validL s)) ∧ Below w.heap.size w w'
  has : ∀ (s : Sp) (k : List UInt8) (w : World), Calls Try.prog 14 #[spV s, .string (bs k)] w fun e w' => e = .returned (.bool (hasL s k)) ∧ Below w.heap.size w w'
  key : ∀ (k : List UInt8) (w : World), k.length ≤ 1000 → Calls Try.prog 17 #[.string (bs k)] w fun e w' => e = .returned (spV (k, k ++ [0])) ∧ Below w.heap.size w w'
  under : ∀ (p : List UInt8) (w : World), p.length ≤ 1000 → Calls Try.prog 16 #[.string (bs p)] w fun e w' => e = .returned (spV (p, upL p)) ∧ Below w.heap.size w w'
  inside : ∀ (a b : Sp) (w : World), Calls Try.prog 18 #[spV a, spV b] w fun e w' => e = .returned (.bool (validL b && coversL [b] a)) ∧ Below w.heap.size w w'
  union : ∀ (l : List Sp) (A : Option Addr) (n cap : Nat) (w : World), l.length = n → RowAt w A (spC l) → n ≤ 1000 → Calls Try.prog 20 #[.slice A n cap] w (SpRet (unionL l) w)
  covers : ∀ (l : List Sp) (A : Option Addr) (n cap : Nat) (s : Sp) (w : World), l.length = n → RowAt w A (spC l) → n ≤ 1000 → Calls Try.prog 23 #[.slice A n cap, spV s] w fun e w' => e = .returned (.bool (coversL l s)) ∧ Below w.heap.size w w'
  minus : ∀ (l : List Sp) (A : Option Addr) (n cap : Nat) (s : Sp) (w : World), l.length = n → RowAt w A (spC l) → n ≤ 1000 → Calls Try.prog 24 #[.slice A n cap, spV s] w (SpRet (minusL l s) w)

theorem bs_1 (x : UInt8) : bs [x] = ({ data := #[x] } : ByteArray) := by rw [bs_eq]
theorem awake_union : unionL [([98], [100]), ([97], [99]), ([100], [101])] = [([97], [101])] := by decide +kernel
theorem awake_under : upL [97] = [98] := by decide +kernel
theorem awake_valid : validL ([97], [101]) = true := by decide +kernel

/-- The end of a span that is no variable. -/
theorem run_to (x y : ByteArray) (W : World) : (Instr.field 23 (.agg #[.string x, .string y]) 1).run Try.prog W = .ok (.string y) W := by
  unfold Instr.field
  simp [run_underlying Try.underlying23, asAgg, part, isAgg, run_underlying Try.underlying9]
/-- What a law comes to: true, and what was there stands. -/
def Laws (w : World) (e : Ending) (w' : World) : Prop := e = .returned (.bool true) ∧ Below w.heap.size w w'

set_option maxRecDepth 100000 in
set_option maxHeartbeats 2000000 in
theorem awake_any (G : Good) (w : World) : Calls Try.prog 10 #[] w fun e w' => e = .returned (.bool true) ∧ Below w.heap.size w w' := by
  obtain ⟨w0, hw0⟩ : ∃ w0, w0 = w.alloc (.cells #[.string { data := #[98] }, .string { data := #[100] }, .string { data := #[97] }, .string { data := #[99] }, .string { data := #[100] }, .string { data := #[101] }] 23) := ⟨_, rfl⟩
  have Hb0 : Hid (Below w.heap.size w w0) := Lib.hid (by rw [hw0]; exact (Below.refl _ _).alloc (Nat.le_refl _) _)
  have Hr0 : Hid (RowAt w0 (some ⟨w.heap.size, 0, none⟩) (spC [([98], [100]), ([97], [99]), ([100], [101])])) := Lib.hid (by
    have := row_new w #[.string { data := #[98] }, .string { data := #[100] }, .string { data := #[97] }, .string { data := #[99] }, .string { data := #[100] }, .string { data := #[101] }] 23
    rw [hw0]
    simp only [spC, List.flatMap_cons, List.flatMap_nil, bs_1]
    exact this)
  have HU := Lib.hid (G.union [([98], [100]), ([97], [99]), ([100], [101])] (some ⟨w.heap.size, 0, none⟩) 3 3 w0 rfl Hr0.out (by omega))
  rw [awake_union] at HU
  have HN := Lib.hid (fun W => G.under [97] W (by decide))
  rw [awake_under] at HN
  have HR := Lib.hid (fun W => G.right ([97], [101]) W)
  rw [awake_valid] at HR
  unfold spV at HN HR
  simp only [bs_1] at HN HR
  have hto := run_to
  go_enter Try.func10, Try.ntmps10
  go_wp2_with fail
  rw [← hw0]
  refine HU.out.mono ?_
  rintro e w1 ⟨⟨A, n, cap, rfl, hn, hr⟩, hb1⟩
  obtain rfl : n = 1 := by simpa using hn.symm
  obtain ⟨b, off, rfl, hbl, c0, c1⟩ := row_span hr 0 _ rfl
  simp only [bs_1, Nat.zero_mul, Nat.add_zero] at c0 c1
  have Hb1 := Lib.hid (Hb0.out.trans (hb1.mono Hb0.out.size))
  clear hb1 hw0 hr hn HU Hr0
  go_wp2_with fail
  refine (HN.out _).mono ?_
  rintro e w2 ⟨rfl, hb2⟩
  have e0 := (hb2.cell (p := ⟨b, off, none⟩) hbl).trans c0
  have e1 := (hb2.cell (p := ⟨b, off + 1, none⟩) hbl).trans c1
  have Hb2 := Lib.hid (Hb1.out.trans (hb2.mono Hb1.out.size))
  clear hb2 c0 c1
  go_wp2_with fail
  refine (HR.out _).mono ?_
  rintro e w3 ⟨rfl, hb3⟩
  have Hb3 := Lib.hid (Hb2.out.trans (hb3.mono Hb2.out.size))
  clear hb3
  go_wp2
  go_ret
  exact ⟨rfl, Hb3.out⟩
end Go.Proofs.Ytfjgikcbngfhmaa
