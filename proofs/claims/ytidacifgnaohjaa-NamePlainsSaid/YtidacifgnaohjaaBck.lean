/-
  The contract of name's Back.
-/
import Derived.Test.YtidacifgnaohjaaUne
namespace Go.Proofs.Ytidacifgnaohjaa
open Go.RowKit

theorem list_eq_b (l : List UInt8) (s : ByteArray) (h : l = bl s) : ((bs l).toList == s.toList) = true := by rw [bs_toList, bl_toList, h]; simp
theorem list_ne_b (l : List UInt8) (s : ByteArray) (h : l ≠ bl s) : ((bs l).toList == s.toList) = false := by rw [bs_toList, bl_toList]; simp [h]

/-- What Back tells. -/
def BackGot (l : List UInt8) (e : Ending) : Prop :=
  (∃ t, backO l = some t ∧ t.length ≤ l.length ∧ e = .returned (.tuple #[.string (bs t), .bool true])) ∨ (backO l = none ∧ e = .returned (.tuple #[.string { data := #[] }, .bool false]))
theorem backO_of (l t : List UInt8) (h : unS (piecesL l) 0 0 = some t) : backO l = if plainL t = l then some t else none := by
  unfold backO; rw [h]
theorem backO_none (l : List UInt8) (h : unS (piecesL l) 0 0 = none) : backO l = none := by
  unfold backO; rw [h]

set_option maxRecDepth 100000 in
set_option maxHeartbeats 2000000 in
theorem back_any (s : ByteArray) (w : World) (hs : s.size ≤ 100000) : Calls Try.prog 16 #[.string s] w fun e w' => BackGot (bl s) e ∧ Below w.heap.size w w' := by
  have Hu := Lib.hid (unescaped_any s w hs)
  go_enter Try.func16, Try.ntmps16
  go_wp2_with fail
  refine Hu.out.mono ?_
  rintro e w1 ⟨⟨t, ok, rfl, hcase⟩, hb1⟩
  have Hb1 := Lib.hid hb1
  clear hb1
  rcases hcase with ⟨rfl, hun, hts⟩ | ⟨rfl, hun⟩
  · have Hbo := Lib.hid (backO_of _ _ hun)
    have Hpl := Lib.hid (fun W => plain_any t W (by omega))
    clear hun
    by_cases hp : plainL (bl t) = bl s
    · have Hv : Hid (backO (bl s) = some (bl t)) := Lib.hid (by rw [Hbo.out, if_pos hp])
      have heq := list_eq_b _ s hp
      have Hlen : Hid ((bl t).length ≤ (bl s).length) := Lib.hid (by rw [bl_length, bl_length]; exact hts)
      generalize plainL (bl t) = pt at *
      clear hp
      go_wp2_with (go_at_call 14; refine (Hpl.out _).mono ?_; rintro e w2 ⟨rfl, hb2⟩; replace hb2 := Lib.hid hb2)
      go_ret2
      exact ⟨.inl ⟨_, Hv.out, Hlen.out, by rw [bs_bl]; rfl⟩, Hb1.out.trans (hb2.out.mono Hb1.out.size)⟩
    · have Hv : Hid (backO (bl s) = none) := Lib.hid (by rw [Hbo.out, if_neg hp])
      have heq := list_ne_b _ s hp
      generalize plainL (bl t) = pt at *
      clear hp
      go_wp2_with (go_at_call 14; refine (Hpl.out _).mono ?_; rintro e w2 ⟨rfl, hb2⟩; replace hb2 := Lib.hid hb2)
      go_ret2
      exact ⟨.inr ⟨Hv.out, rfl⟩, Hb1.out.trans (hb2.out.mono Hb1.out.size)⟩
  · have Hv : Hid (backO (bl s) = none) := Lib.hid (backO_none _ hun)
    clear hun
    go_wp2_with fail
    go_ret2
    exact ⟨.inr ⟨Hv.out, rfl⟩, Hb1.out⟩
end Go.Proofs.Ytidacifgnaohjaa
