/-
  DiskNone, from what it asks of the program's disk that isn't there.
-/
import Derived.Test.YtbgfkjafablfiaaTO
namespace Go.Proofs.Ytbgfkjafablfiaa
open Go.RowKit

def NRet (x : Value) (w : World) (e : Ending) (w' : World) : Prop := e = .returned x ∧ Below w.heap.size w w'
/-- A disk that isn't there. -/
structure NoneD : Prop where
  append : ∀ (x y : ByteArray) (w : World), Calls Try.prog 14 #[.pointer none, .string x, .string y] w (NRet (.int .i64 7) w)
  sync : ∀ (x : ByteArray) (w : World), Calls Try.prog 15 #[.pointer none, .string x] w (NRet (.int .i64 7) w)
  cut : ∀ (x : ByteArray) (n : Int) (w : World), I64 n → Calls Try.prog 21 #[.pointer none, .string x, .int .i64 n] w (NRet (.int .i64 7) w)
  remove : ∀ (x : ByteArray) (w : World), Calls Try.prog 22 #[.pointer none, .string x] w (NRet (.int .i64 7) w)
  read : ∀ (x : ByteArray) (w : World), Calls Try.prog 17 #[.pointer none, .string x] w (NRet (.tuple #[.string { data := #[] }, .int .i64 7]) w)
  crash : ∀ (v : Value) (w : World), Calls Try.prog 16 #[.pointer none, v] w (NRet (.tuple #[]) w)
  fuse : ∀ (n : Int) (w : World), I64 n → Calls Try.prog 18 #[.pointer none, .int .i64 n] w (NRet (.tuple #[]) w)
  room : ∀ (n : Int) (w : World), I64 n → Calls Try.prog 24 #[.pointer none, .int .i64 n] w (NRet (.int .i64 7) w)
  down : ∀ (w : World), Calls Try.prog 19 #[.pointer none] w (NRet (.bool true) w)
  used : ∀ (w : World), Calls Try.prog 20 #[.pointer none] w (NRet (.int .i64 0) w)
  names : ∀ (w : World), Calls Try.prog 23 #[.pointer none] w fun e w' => (∃ A cap, e = .returned (.slice A 0 cap)) ∧ Below w.heap.size w w'
/-- An op as the law holds it, behind X, and what has been since w0. -/
structure OpAt (w0 : World) (X : Nat) (nm b : ByteArray) (n : Int) (A : Option Addr) (kl kc : Nat) (w : World) : Prop where
  size : X < w.heap.size
  a1 : w.cell? ⟨X, 0 + 1, none⟩ = some (.string nm)
  a2 : w.cell? ⟨X, 0 + 2, none⟩ = some (.string b)
  a3 : w.cell? ⟨X, 0 + 3, none⟩ = some (.int .i64 n)
  a4 : w.cell? ⟨X, 0 + 4, none⟩ = some (.slice A kl kc)
  since : Below w0.heap.size w0 w
theorem OpAt.below {w0 : World} {X : Nat} {nm b : ByteArray} {n : Int} {A : Option Addr} {kl kc : Nat} {w w' : World} (h : OpAt w0 X nm b n A kl kc w) (hb : Below w.heap.size w w') : OpAt w0 X nm b n A kl kc w' :=
  ⟨Nat.lt_of_lt_of_le h.size hb.size, (hb.cell h.size).trans h.a1, (hb.cell h.size).trans h.a2, (hb.cell h.size).trans h.a3, (hb.cell h.size).trans h.a4, h.since.trans (hb.mono h.since.size)⟩

set_option maxRecDepth 100000 in
set_option maxHeartbeats 4000000 in
theorem none_law (G : GoodD) (N : NoneD) (k : Int) (nm b : ByteArray) (n : Int) (A : Option Addr) (kl kc : Nat) (w : World) (hn : I64 n) :
    Calls Try.prog 7 #[.agg #[.int .i64 k, .string nm, .string b, .int .i64 n, .slice A kl kc]] w (Laws w) := by
  have HN := Lib.hid N
  have Hn := Lib.hid hn
  clear N hn
  obtain ⟨X, hX⟩ : ∃ X, X = w.heap.size := ⟨_, rfl⟩
  obtain ⟨wa, hwa⟩ : ∃ wa, wa = w.alloc (.cells #[.int .i64 k, .string nm, .string b, .int .i64 n, .slice A kl kc] 35) := ⟨_, rfl⟩
  have O0 : Hid (OpAt w X nm b n A kl kc wa) := Lib.hid
    ⟨by rw [hwa, hX]; simp, by rw [hwa, hX]; simp, by rw [hwa, hX]; simp, by rw [hwa, hX]; simp, by rw [hwa, hX]; simp, by rw [hwa]; exact (Below.refl _ _).alloc (Nat.le_refl _) _⟩
  have Hwa := Lib.hid hwa
  have HX := Lib.hid hX
  have HA := Lib.hid (awake_any G wa)
  clear hwa hX
  go_enter Try.func7, Try.ntmps7
  go_wp2_with fail
  rw [← Hwa.out, ← HX.out]
  go_wp2_with fail
  refine HA.out.mono ?_
  rintro e w1 ⟨rfl, hb1⟩
  have O1 := Lib.hid (O0.out.below hb1)
  obtain ⟨-, a1, a2, a3, a4, -⟩ := O1.out
  clear hb1
  go_wp2_with fail
  refine (HN.out.fuse n w1 Hn.out).mono ?_
  rintro e w2 ⟨rfl, hb⟩
  have O2 := Lib.hid (O1.out.below hb)
  clear hb a1 a2 a3 a4
  obtain ⟨-, a1, a2, a3, a4, -⟩ := O2.out
  go_wp2_with fail
  refine (HN.out.crash _ w2).mono ?_
  rintro e w3 ⟨rfl, hb⟩
  have O3 := Lib.hid (O2.out.below hb)
  clear hb a1 a2 a3 a4
  obtain ⟨-, a1, a2, a3, a4, -⟩ := O3.out
  go_wp2_with fail
  refine (HN.out.read _ w3).mono ?_
  rintro e w4 ⟨rfl, hb⟩
  have O4 := Lib.hid (O3.out.below hb)
  clear hb a1 a2 a3 a4
  obtain ⟨-, a1, a2, a3, a4, -⟩ := O4.out
  go_wp2_with fail
  refine (HN.out.append _ _ w4).mono ?_
  rintro e w5 ⟨rfl, hb⟩
  have O5 := Lib.hid (O4.out.below hb)
  clear hb a1 a2 a3 a4
  obtain ⟨-, a1, a2, a3, a4, -⟩ := O5.out
  go_wp2_with fail
  refine (HN.out.sync _ w5).mono ?_
  rintro e w6 ⟨rfl, hb⟩
  have O6 := Lib.hid (O5.out.below hb)
  clear hb a1 a2 a3 a4
  obtain ⟨-, a1, a2, a3, a4, -⟩ := O6.out
  go_wp2_with fail
  refine (HN.out.cut _ _ w6 Hn.out).mono ?_
  rintro e w7 ⟨rfl, hb⟩
  have O7 := Lib.hid (O6.out.below hb)
  clear hb a1 a2 a3 a4
  obtain ⟨-, a1, a2, a3, a4, -⟩ := O7.out
  go_wp2_with fail
  refine (HN.out.remove _ w7).mono ?_
  rintro e w8 ⟨rfl, hb⟩
  have O8 := Lib.hid (O7.out.below hb)
  clear hb a1 a2 a3 a4
  obtain ⟨-, a1, a2, a3, a4, -⟩ := O8.out
  go_wp2_with fail
  refine (HN.out.names w8).mono ?_
  rintro e w9 ⟨⟨A2, cap2, rfl⟩, hb⟩
  have O9 := Lib.hid (O8.out.below hb)
  clear hb a1 a2 a3 a4
  obtain ⟨-, a1, a2, a3, a4, -⟩ := O9.out
  go_wp2_with fail
  refine (HN.out.used w9).mono ?_
  rintro e w10 ⟨rfl, hb⟩
  have O10 := Lib.hid (O9.out.below hb)
  clear hb a1 a2 a3 a4
  obtain ⟨-, a1, a2, a3, a4, -⟩ := O10.out
  go_wp2_with fail
  refine (HN.out.down w10).mono ?_
  rintro e w11 ⟨rfl, hb⟩
  have O11 := Lib.hid (O10.out.below hb)
  clear hb a1 a2 a3 a4
  obtain ⟨-, a1, a2, a3, a4, -⟩ := O11.out
  go_wp2_with fail
  refine (HN.out.room _ w11 Hn.out).mono ?_
  rintro e w12 ⟨rfl, hb⟩
  have O12 := Lib.hid (O11.out.below hb)
  clear hb a1 a2 a3 a4
  obtain ⟨-, a1, a2, a3, a4, -⟩ := O12.out
  go_wp2
  go_ret
  exact ⟨by simp, O12.out.since⟩
end Go.Proofs.Ytbgfkjafablfiaa
