/-
  The contract of the laws' awake.
-/
import Derived.Test.YtbgfkjafablfiaaTL
namespace Go.Proofs.Ytbgfkjafablfiaa
open Go.RowKit

/-- The program's disk alone, in memory from B on. -/
structure Lone (G : GoodD) (B : Nat) (w : World) (a : Addr) (F : Nat → Prop) (s : St) : Prop where
  d : G.D w a F s
  base : ∀ k, F k → B ≤ k
theorem Lone.below {G : GoodD} {B : Nat} {w w' : World} {a : Addr} {F : Nat → Prop} {s : St} (h : Lone G B w a F s) (hb : Below w.heap.size w w') : Lone G B w' a F s :=
  ⟨G.below h.d hb, h.base⟩
theorem Lone.step {G : GoodD} {B : Nat} {w w' : World} {a : Addr} {F F' : Nat → Prop} {s s' : St} (h : Lone G B w a F s) (hB : B ≤ w.heap.size) (hd : G.D w' a F' s') (ho : Only F w w') (hg : ∀ k, F' k → F k ∨ w.heap.size ≤ k) :
    Lone G B w' a F' s' ∧ Below B w w' ∧ B ≤ w'.heap.size :=
  ⟨⟨hd, fun k hk => (hg k hk).elim (h.base k) (fun h1 => Nat.le_trans hB h1)⟩, ho.below hB h.base, Nat.le_trans hB ho.size⟩
/-- What a step of the program's disk leaves. -/
def LoneRet (G : GoodD) (B : Nat) (a : Addr) (s' : St) (x : Value) (w : World) (e : Ending) (w' : World) : Prop :=
  e = .returned x ∧ ∃ F', Lone G B w' a F' s' ∧ Below B w w' ∧ B ≤ w'.heap.size
theorem Lone.ret {G : GoodD} {B : Nat} {w : World} {a : Addr} {F : Nat → Prop} {s s' : St} {x : Value} {f : Nat} {args : Array Value} (h : Lone G B w a F s) (hB : B ≤ w.heap.size) (hc : Calls Try.prog f args w (DRet G.D x a F s' w)) : Calls Try.prog f args w (LoneRet G B a s' x w) :=
  hc.mono fun _ _ ⟨he, F', hd, ho, hg⟩ => ⟨he, F', h.step hB hd ho hg⟩

def aw0 : St := newS 100
def aw1 : St := (appendS [97] [120, 121] aw0).2
def aw2 : St := (syncS [97] aw1).2
def aw3 : St := (appendS [97] [122] aw2).2
def aw4 : St := crashS [0] aw3
theorem aw_1 : (appendS [97] [120, 121] aw0).1 = 0 := by decide +kernel
theorem aw_2 : (syncS [97] aw1).1 = 0 := by decide +kernel
theorem aw_3 : (appendS [97] [122] aw2).1 = 0 := by decide +kernel
theorem aw_4 : readS [97] aw4 = ([120, 121], 0) := by decide +kernel
theorem aw_m0 : Most aw0 0 0 := most_new 100 (by omega) (by omega)
theorem aw_m1 : Most aw1 2 1 := aw_m0.grows (append_grows [97] [120, 121] aw0)
theorem aw_m2 : Most aw2 2 2 := aw_m1.grows (c := 0) (step_grows 1 [97] [] 0 [] aw1 (by unfold I64; omega))
theorem aw_m3 : Most aw3 3 3 := aw_m2.grows (append_grows [97] [122] aw2)
theorem aw_m4 : Most aw4 3 4 := aw_m3.grows (c := 0) (step_grows 7 [] [] 0 [0] aw3 (by unfold I64; omega))
attribute [irreducible] aw0 aw1 aw2 aw3 aw4

set_option maxRecDepth 100000 in
set_option maxHeartbeats 4000000 in
theorem awake_any (G : GoodD) (w : World) : Calls Try.prog 8 #[] w fun e w' => e = .returned (.bool true) ∧ Below w.heap.size w w' := by
  have sa : ({ data := #[97] } : ByteArray) = bs [97] := by rw [bs_eq]
  have sxy : ({ data := #[120, 121] } : ByteArray) = bs [120, 121] := by rw [bs_eq]
  have sz : ({ data := #[122] } : ByteArray) = bs [122] := by rw [bs_eq]
  have HN := Lib.hid (G.new 100 w (by omega) (by omega))
  rw [show newS 100 = aw0 by unfold aw0; rfl] at HN
  go_enter Try.func8, Try.ntmps8
  go_wp2_with fail
  refine HN.out.mono ?_
  rintro e w1 ⟨a, F1, rfl, hd1, hn1, hb1⟩
  have L1 := Lib.hid (⟨hd1, hn1⟩ : Lone G w.heap.size w1 a F1 aw0)
  have B1 := Lib.hid hb1
  have Z1 : Hid (w.heap.size ≤ w1.heap.size) := Lib.hid hb1.size
  have HA1 := Lib.hid (L1.out.ret Z1.out (G.append [97] [120, 121] a F1 aw0 w1 L1.out.d (aw_m0.fit (by omega) (by omega)) (by decide) (by decide)))
  rw [aw_1, show (appendS [97] [120, 121] aw0).2 = aw1 by unfold aw1; rfl] at HA1
  clear hd1 hn1 hb1 HN
  go_wp2_with fail
  refine HA1.out.mono ?_
  rintro e w2 ⟨rfl, F2, l2, b2, z2⟩
  have L2 := Lib.hid l2
  have B2 := Lib.hid (B1.out.trans b2)
  have Z2 := Lib.hid z2
  have HA2 := Lib.hid (L2.out.ret Z2.out (G.sync [97] a F2 aw1 w2 (by decide) L2.out.d (aw_m1.fit (by omega) (by omega))))
  rw [aw_2, show (syncS [97] aw1).2 = aw2 by unfold aw2; rfl] at HA2
  clear l2 b2 z2 HA1
  go_wp2_with fail
  refine HA2.out.mono ?_
  rintro e w3 ⟨rfl, F3, l3, b3, z3⟩
  have L3 := Lib.hid l3
  have B3 := Lib.hid (B2.out.trans b3)
  have Z3 := Lib.hid z3
  have HA3 := Lib.hid (L3.out.ret Z3.out (G.append [97] [122] a F3 aw2 w3 L3.out.d (aw_m2.fit (by omega) (by omega)) (by decide) (by decide)))
  rw [aw_3, show (appendS [97] [122] aw2).2 = aw3 by unfold aw3; rfl] at HA3
  clear l3 b3 z3 HA2
  go_wp2_with fail
  refine HA3.out.mono ?_
  rintro e w4 ⟨rfl, F4, l4, b4, z4⟩
  have hal := (Below.refl w4.heap.size w4).alloc (Nat.le_refl _) (.cells #[.int .i64 0] 3)
  have L4 := Lib.hid (l4.below hal)
  have B4 := Lib.hid ((B3.out.trans b4).trans (hal.mono z4))
  have Z4 : Hid (w.heap.size ≤ (w4.alloc (.cells #[.int .i64 0] 3)).heap.size) := Lib.hid (Nat.le_trans z4 hal.size)
  have HA4 := Lib.hid (L4.out.ret Z4.out (G.crash [0] (some ⟨w4.heap.size, 0, none⟩) 1 1 a F4 aw3 _ L4.out.d (aw_m3.fit (by omega) (by omega)) rfl (row_new w4 #[.int .i64 0] 3) (fun g off e _ hF => by injection e with e; injection e with e; have h1 := G.foot l4.d _ hF; omega) (by intro x hx; simp at hx; subst hx; unfold I64; omega) (by omega)))
  rw [show crashS [0] aw3 = aw4 by unfold aw4; rfl] at HA4
  clear l4 b4 z4 hal HA3
  go_wp2_with fail
  refine HA4.out.mono ?_
  rintro e w5 ⟨rfl, F5, l5, b5, z5⟩
  have L5 := Lib.hid l5
  have B5 := Lib.hid (B4.out.trans b5)
  have Z5 := Lib.hid z5
  have HA5 := Lib.hid (L5.out.ret Z5.out (G.read [97] a F5 aw4 w5 (by decide) L5.out.d (aw_m4.fit (by omega) (by omega))))
  rw [aw_4] at HA5
  clear l5 b5 z5 HA4
  go_wp2_with fail
  refine HA5.out.mono ?_
  rintro e w6 ⟨rfl, F6, l6, b6, z6⟩
  have B6 := Lib.hid (B5.out.trans b6)
  clear l6 b6 z6 HA5
  go_wp2
  go_ret
  exact ⟨by simp, B6.out⟩
end Go.Proofs.Ytbgfkjafablfiaa
