/-
  A disk alone in memory, with the library's table; what the laws' calls leave; the contract of the laws' awake.
-/
import Derived.Test.YtmgbmphheagdmaaGreatDoorVD
import Derived.Test.YtmgbmphheagdmaaGreatDoorOF
namespace Go.Proofs.YtmgbmphheagdmaaGreatDoor
open Go.RowKit
set_option linter.unusedVariables false
set_option linter.unusedSimpArgs false

/-- The program's disk alone, in memory from B on; and the table. -/
structure Lon (B : Nat) (w : World) (a : Addr) (F : Nat → Prop) (s : St) : Prop where
  d : good.D w a F s
  base : ∀ k, F k → B ≤ k
  tab : TabB B w
  lt : B ≤ w.heap.size
section
variable {B : Nat} {w w' : World} {a : Addr} {F F' : Nat → Prop} {s s' : St}
theorem Lon.below (h : Lon B w a F s) (hb : Below w.heap.size w w') : Lon B w' a F s :=
  ⟨good.below h.d hb, h.base, h.tab.on (below_mono' hb h.lt), Nat.le_trans h.lt hb.size⟩
theorem Lon.step (h : Lon B w a F s) (hd : good.D w' a F' s') (ho : Only F w w') (hg : ∀ k, F' k → F k ∨ w.heap.size ≤ k) : Lon B w' a F' s' :=
  ⟨hd, fun k hk => (hg k hk).elim (h.base k) (fun h1 => Nat.le_trans h.lt h1), h.tab.on (ho.below h.lt h.base), Nat.le_trans h.lt ho.size⟩
theorem Lon.tabF (h : Lon B w a F s) : TabF F w := ⟨B, h.lt, h.tab, h.base⟩
/-- A block that the disk does not touch. -/
def Box (w : World) (F : Nat → Prop) (g : Nat) (t : TypeId) (cs : List Value) : Prop := Holds w g t cs ∧ ¬ F g
variable {g : Nat} {t : TypeId} {cs : List Value}
theorem Box.step (h : Box w F g t cs) (ho : Only F w w') (hg : ∀ k, F' k → F k ∨ w.heap.size ≤ k) : Box w' F' g t cs :=
  ⟨(ho.block g h.1.lt h.2).trans h.1, fun hf => (hg g hf).elim h.2 (fun h1 => by have := h.1.lt; omega)⟩
theorem Box.below (h : Box w F g t cs) (hb : Below w.heap.size w w') : Box w' F g t cs := ⟨h.1.below hb h.1.lt, h.2⟩
theorem Box.new (h : Lon B w a F s) (xs : Array Value) (t : TypeId) : Box (w.alloc (.cells xs t)) F w.heap.size t xs.toList :=
  ⟨Holds.new w t xs, fun hf => by have := good.foot h.d _ hf; omega⟩
/-- What a call that turns the disk leaves. -/
def LRet (x : Value) (B : Nat) (a : Addr) (F : Nat → Prop) (s' : St) (w : World) (e : Ending) (w' : World) : Prop :=
  e = .returned x ∧ ∃ F', Lon B w' a F' s' ∧ Only F w w' ∧ (∀ k, F' k → F k ∨ w.heap.size ≤ k) ∧ Below B w w'
theorem Lon.ret {x : Value} {f : Nat} {args : Array Value} (h : Lon B w a F s) (hc : Calls Tryz.prog f args w (DRet good.D x a F s' w)) : Calls Tryz.prog f args w (LRet x B a F s' w) :=
  hc.mono fun e w' ⟨he, F', hd, ho, hg⟩ => ⟨he, F', h.step hd ho hg, ho, hg, ho.below h.lt h.base⟩
theorem Lon.save (h : Lon B w a F s) (q : Sh) (u i : Nat) (hm : Most s u i) (hu : u ≤ 900000000) (hi : i ≤ 900000) (hq : q.d.length ≤ 9223372036854775807) :
    Calls Tryz.prog 12 #[.pointer (some a), snapV q] w (LRet (.int .i64 (saveS q s).1) B a F (saveS q s).2 w) :=
  h.ret (save_any q a F s w u i h.d hm hu hi hq h.tabF)
theorem Lon.clean (h : Lon B w a F s) (o : Option Sh) (hf : Fit s) (hl : s.off = false → LoadF s.files o) :
    Calls Tryz.prog 14 #[.pointer (some a)] w (LRet (.int .i64 (cleanS o s).1) B a F (cleanS o s).2 w) :=
  h.ret (clean_any o a F s w h.d hf hl h.tabF)
theorem Lon.load (h : Lon B w a F s) (o : Option Sh) (hf : Fit s) (ho : s.off = false) (hl : LoadF s.files o) :
    Calls Tryz.prog 24 #[.pointer (some a)] w fun e w' => e = .returned (loadV 0 o) ∧ Lon B w' a F s ∧ Below w.heap.size w w' :=
  (load_on (load_any a F s w h.d hf h.tabF.here) (by rw [ho]; simp)).mono fun e w' ⟨⟨o2, h2, he⟩, hb⟩ => by
    obtain rfl : o2 = o := load_unique (good.rise h.d) h2 hl
    exact ⟨he, h.below hb, hb⟩
theorem Lon.names (h : Lon B w a F s) (hf : Fit s) (ho : s.off = false) :
    Calls Tryz.prog 26 #[.pointer (some a)] w fun e w' => ∃ A cap, e = .returned (.slice A s.files.length cap) ∧ RowAt w' A (strC (s.files.map (·.1))) ∧ Lon B w' a F s ∧ Below w.heap.size w w' :=
  (good.names a F s w h.d hf).mono fun e w' ⟨⟨A, n, cap, he, hn, hr, _⟩, hb⟩ => by
    have e1 : namesL s = s.files.map (·.1) := by unfold namesL; rw [if_neg (by rw [ho]; simp)]
    rw [e1] at hn hr
    rw [List.length_map] at hn
    subst hn
    exact ⟨A, cap, he, hr, h.below hb, hb⟩
theorem Lon.start {room : Int} (h0 : 0 ≤ room) (h1 : room ≤ 8388608) (ht : Tab w) :
    Calls Tryz.prog 10 #[.int .i64 room] w fun e w' => ∃ a F, e = .returned (.tuple #[.pointer (some a), .int .i64 0]) ∧ Lon w.heap.size w' a F (newS room) ∧ Below w.heap.size w w' :=
  (good.new room w h0 h1).mono fun e w' ⟨a, F, he, hd, hF, hb⟩ => ⟨a, F, he, ⟨hd, hF, (TabB.of ht).on hb, hb.size⟩, hb⟩
end

/-- A disk with one snapshot on it. -/
def roomOne (s : Sh) (room : Int) : St := ⟨[doneF s], room, -1, false⟩
theorem most_room1 {s : Sh} {room : Int} (h : okS s) (h0 : 0 ≤ room) (h1 : room ≤ 8388608) : Most (roomOne s room) 1048607 1 :=
  ⟨by show usedL [doneF s] ≤ _; rw [used_done]; exact text_bd h, Nat.le_refl _, h0, h1, by show (-1 : Int) ≤ -1; omega, by show (-1 : Int) ≤ _; omega⟩
theorem fit_room1 {s : Sh} {room : Int} (h : okS s) (h0 : 0 ≤ room) (h1 : room ≤ 8388608) : Fit (roomOne s room) := (most_room1 h h0 h1).fit (by decide) (by decide)
theorem save_first {s : Sh} {room : Int} (h : okS s) (hu : ((textS s).length : Int) ≤ room) : saveS s (newS room) = (0, roomOne s room) := by
  obtain ⟨fs, h1, h2, _, h4⟩ := save_ok (d := newS room) (right_shot _) h List.Pairwise.nil rfl rfl (by show (((0 : Nat) + (textS s).length : Nat) : Int) ≤ room; omega)
  rw [h1]
  rcases h4 with h4 | ⟨_, f, hf, _⟩
  · have : fs = [doneF s] := rise_eq h2 (List.pairwise_singleton _ _) (fun f => by rw [h4]; simp [newS])
    rw [this]
    rfl
  · cases hf
theorem crash_room1 {s : Sh} {room : Int} (keep : List Int) : crashS keep (roomOne s room) = roomOne s room := by
  unfold crashS roomOne
  simp only
  rw [crash_done keep 0 _ (fun f hf => by rw [List.mem_singleton.1 hf]; rfl)]
def aS : Sh := ⟨3, 1, [120]⟩
theorem aS_ok : okS aS := by unfold okS aS; decide
theorem aS_name : bs (shotL 3) = ({ data := #[115, 48, 48, 48, 48, 48, 48, 48, 48, 48, 48, 48, 48, 51] } : ByteArray) := by
  rw [show shotL 3 = [115, 48, 48, 48, 48, 48, 48, 48, 48, 48, 48, 48, 48, 51] by decide +kernel, bs_eq]
theorem aS_data : bs [120] = ({ data := #[120] } : ByteArray) := by rw [bs_eq]

theorem loadV_aS : loadV 0 (some aS) = .tuple #[.agg #[.int .i64 3, .int .i64 1, .string { data := #[120] }], .bool true, .int .i64 0] := by
  rw [← aS_data]; rfl

set_option maxRecDepth 100000 in
set_option maxHeartbeats 4000000 in
theorem awake_any (w : World) (ht : Tab w) : Calls Tryz.prog 8 #[] w fun e w' => e = .returned (.bool true) ∧ Below w.heap.size w w' := by
  have HN := Lib.hid (Lon.start (w := w) (room := 1000) (by decide) (by decide) ht)
  have Heq := Lib.hid (fun W => eql_snap aS aS W)
  rw [show sameS aS aS = true from sameS_iff.2 rfl] at Heq
  unfold snapV aS at Heq
  simp only [aS_data] at Heq
  clear ht
  go_enter Tryz.func8, Tryz.ntmps8
  go_wp2_with fail
  refine HN.out.mono ?_
  rintro e w1 ⟨a, F, rfl, l1, b1⟩
  have L1 := Lib.hid l1
  have B1 := Lib.hid b1
  clear l1 b1 HN
  obtain ⟨wa, hwa⟩ : ∃ wa, wa = w1.alloc (.cells #[.int .i64 3, .int .i64 1, .string { data := #[120] }] 33) := ⟨_, rfl⟩
  have X1 : Hid (Box wa F w1.heap.size 33 [.int .i64 3, .int .i64 1, .string { data := #[120] }]) := Lib.hid (by rw [hwa]; exact Box.new L1.out _ _)
  have Ba : Hid (Below w1.heap.size w1 wa) := Lib.hid (by rw [hwa]; exact (Below.refl _ _).alloc (Nat.le_refl _) _)
  have La := Lib.hid (L1.out.below Ba.out)
  have Hwa := Lib.hid hwa
  obtain ⟨g, hg⟩ : ∃ g, g = w1.heap.size := ⟨_, rfl⟩
  have Hg := Lib.hid hg
  rw [← hg] at X1
  clear hwa hg
  have HS := Lib.hid (La.out.save aS 0 0 (most_new 1000 (by decide) (by decide)) (by decide) (by decide) (by decide))
  rw [save_first aS_ok (by have := text_le aS_ok; have e : aS.d.length = 1 := rfl; omega)] at HS
  unfold snapV at HS
  rw [show bs aS.d = { data := #[120] } from aS_data] at HS
  unfold aS at HS
  go_wp2_with fail
  rw [← Hwa.out, ← Hg.out]
  refine HS.out.mono ?_
  rintro e w2 ⟨rfl, F2, l2, o2, g2, b2⟩
  have L2 := Lib.hid l2
  have B2 := Lib.hid (B1.out.trans ((below_mono' Ba.out L1.out.lt).trans b2))
  have X2 := Lib.hid (X1.out.step o2 g2)
  clear l2 o2 g2 b2 HS X1 La
  have HN2 := Lib.hid (L2.out.names (fit_room1 aS_ok (by decide) (by decide)) rfl)
  go_wp2_with fail
  refine HN2.out.mono ?_
  rintro e w3 ⟨A3, cap3, rfl, r3, l3, b3⟩
  have L3 := Lib.hid l3
  have B3 := Lib.hid (B2.out.trans (below_mono' b3 L2.out.lt))
  have X3 := Lib.hid (X2.out.below b3)
  clear l3 b3 r3 HN2
  have HN3 := Lib.hid (L3.out.names (fit_room1 aS_ok (by decide) (by decide)) rfl)
  unfold roomOne at HN3
  simp only [List.length_singleton, List.map_cons, List.map_nil] at HN3
  unfold roomOne
  go_wp2_with fail
  refine HN3.out.mono ?_
  rintro e w4 ⟨A4, cap4, rfl, r4, l4, b4⟩
  have L4 := Lib.hid l4
  have B4 := Lib.hid (B3.out.trans (below_mono' b4 L3.out.lt))
  have X4 := Lib.hid (X3.out.below b4)
  obtain ⟨b, off, rfl, _, c4⟩ := row_str r4 0 (shotL 3) rfl
  rw [aS_name, Nat.add_zero] at c4
  clear l4 b4 r4 HN3
  have HC := Lib.hid (L4.out.ret (s' := roomOne aS 1000) (x := .tuple #[]) (f := 16) (args := #[.pointer (some a), .slice none 0 0]) (by
    rw [← crash_room1 (s := aS) (room := 1000) []]
    exact good.crash [] none 0 0 a F2 _ w4 L4.out.d (fit_room1 aS_ok (by decide) (by decide)) rfl (fun j v hj => by simp [intC] at hj) (fun _ _ e => by cases e) (by simp) (by decide)))
  go_wp2_with fail
  refine HC.out.mono ?_
  rintro e w5 ⟨rfl, F5, l5, o5, g5, b5⟩
  have L5 := Lib.hid l5
  have B5 := Lib.hid (B4.out.trans b5)
  have X5 := Lib.hid (X4.out.step o5 g5)
  clear l5 o5 g5 b5 HC
  have HL := Lib.hid (L5.out.load (some aS) (fit_room1 aS_ok (by decide) (by decide)) rfl (load_one aS_ok))
  rw [loadV_aS] at HL
  go_wp2_with fail
  refine HL.out.mono ?_
  rintro e w6 ⟨rfl, l6, b6⟩
  have B6 := Lib.hid (B5.out.trans (below_mono' b6 L5.out.lt))
  have X6 := Lib.hid (X5.out.below b6)
  have HX := Lib.hid (fun o => holds3 (X6.out.1.alloc o))
  clear l6 b6 HL
  have k0 := fun o => (HX.out o).1
  have k1 := fun o => (HX.out o).2.1
  have k2 := fun o => (HX.out o).2.2
  have heq := fun W => Heq.out W
  go_wp2
  go_ret
  exact ⟨rfl, B6.out.alloc (by have := B6.out.size; omega) _⟩
end Go.Proofs.YtmgbmphheagdmaaGreatDoor
