/- Texts of one claim, joined: LR LS LT. -/
import Derived.Test.YtdneobnnmmlebaaGreatDoorLQ
/-
  The contracts of allValid, extend and Append.
-/
namespace Go.Proofs.YtdneobnnmmlebaaGreatDoor
open Go.RowKit

set_option maxRecDepth 100000 in
set_option maxHeartbeats 4000000 in
theorem allValid_any (l : List Rc) (A : Option Addr) (n cap : Nat) (w : World) (hlen : l.length = n) (hrow : RowAt w A (rcC l)) (hd : ∀ r ∈ l, rightR r) (hn : n ≤ 9223372036854775807) :
    Calls Tryz.prog 31 #[.slice A n cap] w fun e w' => e = .returned (.bool true) ∧ Below w.heap.size w w' := by
  have Hrow := Lib.hid hrow
  have Hlen := Lib.hid hlen
  have Hd := Lib.hid hd
  clear hrow hlen hd
  go_enter Tryz.func31, Tryz.ntmps31
  go_wp2
  go_loopw [7] (fun iv wr => ∃ i : Nat, i ≤ n ∧ iv = .int .i64 i ∧ Below w.heap.size w wr) (fun iv _ => n - (intOf iv).toNat)
  case atStart => exact ⟨0, Nat.zero_le _, rfl, Below.refl _ _⟩
  case round =>
    obtain ⟨i, hi, rfl, hb⟩ := hrel
    have Hb := Lib.hid hb
    by_cases hlt : i < n
    · have hltz : (i : Int) < (n : Int) := by omega
      obtain ⟨r, hr⟩ : ∃ r, l[i]? = some r := ⟨_, List.getElem?_eq_getElem (by rw [Hlen.out]; exact hlt)⟩
      obtain ⟨b, off, rfl, hbl, c0, c1, c2, c3, c4⟩ := row_rec Hrow.out hr
      have d0 := (hb.cell (p := ⟨b, off + i * 5, none⟩) hbl).trans c0
      have d1 := (hb.cell (p := ⟨b, off + i * 5 + 1, none⟩) hbl).trans c1
      have d2 := (hb.cell (p := ⟨b, off + i * 5 + 2, none⟩) hbl).trans c2
      have d3 := (hb.cell (p := ⟨b, off + i * 5 + 3, none⟩) hbl).trans c3
      have d4 := (hb.cell (p := ⟨b, off + i * 5 + 4, none⟩) hbl).trans c4
      have hok := Hd.out r (List.mem_of_getElem? hr)
      have HR := Lib.hid (fun (W : World) => valid_any r W (by have := hok.2.2.2.2.2.2.2.2; omega))
      rw [decide_eq_true hok] at HR
      unfold recV at HR
      clear c0 c1 c2 c3 c4 hr hb hbl hok
      go_wp2_with fail
      refine (HR.out _).mono ?_
      rintro e w1 ⟨rfl, hb1⟩
      have B1 : Hid (Below w.heap.size w w1) := Lib.hid ((Hb.out.alloc Hb.out.size _).trans (below_mono' hb1 (Nat.le_trans Hb.out.size (by simp))))
      clear hb1 d0 d1 d2 d3 d4
      go_wp2
      go_roundw
      case rel => exact ⟨i + 1, by omega, by go_num, B1.out⟩
      case measure => simp [intOf]; omega
    · have hltz : ¬ (i : Int) < (n : Int) := by omega
      clear hb
      go_wp2
      go_ret
      exact ⟨rfl, Hb.out⟩

def set2 (w : World) (x : Nat) (la ct : Nat) : World := ((w.setCell ⟨x, 1, none⟩ (.int .i64 (la : Nat))).setCell ⟨x, 2, none⟩ (.int .i64 (ct : Nat))).setCell ⟨x, 3, none⟩ (.int .i64 0)
set_option maxRecDepth 100000 in
set_option maxHeartbeats 8000000 in
theorem extend_any (G : GoodD) (a : Addr) (x la ct sz q : Nat) (F : Nat → Prop) (s : St) (w : World) (l : List Rc) (A : Option Addr) (n cap : Nat) (hd : G.D w a F s) (hfit : Fit s) (hw : WalM w x a la ct sz) (hx : ¬ F x) (hq : (q = la ∧ sz ≤ 1000000) ∨ q = la + 1) (hqm : q ≤ mostS) (hct : ct ≤ 1000000000000) (ht : TabF (fun k => F k ∨ k = x) w)
    (hlen : l.length = n) (hrow : RowAt w A (rcC l)) (hok : ∀ r ∈ l, rightR r) (hu : (framesL l).length ≤ 500000) :
    Calls Tryz.prog 38 #[.pointer (some ⟨x, 0, none⟩), .int .i64 (q : Int), .slice A n cap] w (WCall G a x F (appendS (fileL q) (framesL l) s).1 (appendS (fileL q) (framesL l) s).2 q (if q = la then ct else ct + 1) ((if q = la then sz else 0) + (framesL l).length) w) := by
  have HR := Lib.hid (framed_any l A n cap w hlen hrow (fun r hr => (hok r hr).wide) (by omega))
  have HF := Lib.hid (fun (W : World) (hb : Below w.heap.size w W) => fileOf_any q W hqm (ht.below hb).here)
  have HA := Lib.hid (fun (W : World) (hb : Below w.heap.size w W) => G.append (fileL q) (framesL l) a F s W (G.below hd hb) hfit (by rw [fileL_len]; decide) (by omega))
  have Hw := Lib.hid hw
  have Hx := Lib.hid hx
  have Hxl := Lib.hid (Holds.lt hw)
  obtain ⟨r, hr⟩ : ∃ r, r = appendS (fileL q) (framesL l) s := ⟨_, rfl⟩
  rw [← hr] at HA
  rw [← hr]
  have hsz : (bs (framesL l)).size = (framesL l).length := bs_size _
  obtain ⟨len, hle⟩ : ∃ k, k = (framesL l).length := ⟨_, rfl⟩
  rw [← hle] at hsz hu
  rw [← hle]
  obtain ⟨ct', hct'⟩ : ∃ c, c = if q = la then ct else ct + 1 := ⟨_, rfl⟩
  obtain ⟨sz', hsz'⟩ : ∃ c, c = (if q = la then sz else 0) + len := ⟨_, rfl⟩
  rw [← hct', ← hsz']
  have Hq := Lib.hid (And.intro hq (And.intro hct' hsz'))
  clear hd hfit hw hx ht hr hlen hrow hok hle hq hct' hsz'
  obtain ⟨v, s'⟩ := r
  simp only at HA ⊢
  generalize bs (framesL l) = P at *
  go_enter Tryz.func38, Tryz.ntmps38
  go_wp2_with fail
  refine HR.out.mono ?_
  rintro e w1 ⟨rfl, hb1⟩
  have B1 := Lib.hid hb1
  have e0 : w1.cell? ⟨x, 0, none⟩ = some (.pointer (some a)) := (hb1.cell (p := ⟨x, 0, none⟩) Hxl.out).trans Hw.out.cells.1
  have Hxl1 : Hid (x < w1.heap.size) := Lib.hid (Nat.lt_of_lt_of_le Hxl.out hb1.size)
  clear hb1 HR
  go_wp2_with fail
  go_region_held3 (fun W => W.cell? ⟨x, 0, none⟩ = some (.pointer (some a)))
    (first
      | exact e0
      | exact (Ho3.out.cell (p := ⟨x, 0, none⟩) (Nat.lt_of_lt_of_le Hxl1.out Hb2.out.size) Hx.out).trans ((Hb2.out.cell (p := ⟨x, 0, none⟩) Hxl1.out).trans e0)
      | exact (Hb2.out.cell (p := ⟨x, 0, none⟩) Hxl1.out).trans e0
      | go_keep)
    (first
      | (go_at_call 34; refine (HF.out _ (B1.out.drew)).mono ?_; rintro e w2 ⟨rfl, hb2⟩; have Hb2 : Hid (Below w1.heap.size w1 w2) := Lib.hid ((Below.refl _ w1).drew.trans hb2); clear hb2)
      | (go_at_call 19; refine (HA.out _ (B1.out.trans (below_mono' Hb2.out B1.out.size))).mono ?_; rintro e w3 ⟨rfl, F3, hd3, ho3, hg3⟩; have Hd3 := Lib.hid hd3; have Ho3 := Lib.hid ho3; have Hg3 := Lib.hid hg3; clear hd3 ho3 hg3)
      | fail "no arm")
  have B2 := Lib.hid (B1.out.trans (below_mono' Hb2.out B1.out.size))
  have W3 := Lib.hid ((Hw.out.only (F := fun _ => False) (Only.of_below B2.out (fun i hi => .inr hi)) id).only Ho3.out Hx.out)
  have On3 : Hid (Only F w w3) := Lib.hid (((Only.refl F w).below_new B2.out).trans Ho3.out)
  have Hk3 : Hid (∀ k, F3 k → F k ∨ w.heap.size ≤ k) := Lib.hid (fun k hk => (Hg3.out k hk).imp id (fun h => Nat.le_trans B2.out.size h))
  have Nx3 : Hid (¬ F3 x) := Lib.hid (fun h => (Hg3.out x h).elim Hx.out (fun h => by have := Hxl.out; have := B2.out.size; omega))
  clear e0 HA HF
  by_cases h0 : v = 0
  · subst h0
    obtain ⟨e0, e1, e2, e3, f1, f2, f3⟩ := W3.out.cells
    have hend : ∀ w4, Only (fun k => k = x) w3 w4 → WalM w4 x a q ct' sz' → WCall G a x F 0 s' q ct' sz' w (.returned (.int .i64 0)) w4 := fun w4 ho4 hw4 =>
      ⟨rfl, F3, G.stay Hd3.out ho4.size (fun k hk => ho4.block k (G.foot Hd3.out k hk) (fun e => Nx3.out (e ▸ hk))), (On3.out.mono (fun k hk => .inl hk)).trans (ho4.mono (fun k hk => .inr hk)), Hk3.out, Nx3.out, fun _ => hw4⟩
    have Hend := Lib.hid hend
    clear hend
    obtain ⟨hq, hct', hsz'⟩ := Hq.out
    rcases hq with ⟨hq, hsz6⟩ | hq
    · rw [if_pos hq] at hct' hsz'
      have hqz : ((q : Int) != (la : Int)) = false := by rw [bne_eq_false_iff_eq]; omega
      have Hw5 : Hid (WalM (w3.setCell ⟨x, 3, none⟩ (.int .i64 ((sz + len : Nat) : Int))) x a q ct' sz') := Lib.hid (by rw [hq, hct', hsz']; exact Holds.set W3.out 3 _)
      have Ho5 : Hid (Only (fun k => k = x) w3 (w3.setCell ⟨x, 3, none⟩ (.int .i64 ((sz + len : Nat) : Int)))) := Lib.hid ((Only.refl _ _).setCell ⟨x, 3, none⟩ _ (.inl rfl))
      clear hq hct' hsz'
      go_wp2
      go_ret
      exact Hend.out _ Ho5.out Hw5.out
    · have hqz : ((q : Int) != (la : Int)) = true := by rw [bne_iff_ne]; omega
      have hne : ¬ q = la := by omega
      rw [if_neg hne] at hct' hsz'
      have Hw5 : Hid (WalM ((set2 w3 x q (ct + 1)).setCell ⟨x, 3, none⟩ (.int .i64 ((len : Nat) : Int))) x a q ct' sz') := Lib.hid (by rw [hct', hsz', Nat.zero_add]; exact Holds.set (Holds.set (Holds.set (Holds.set W3.out 1 _) 2 _) 3 _) 3 _)
      have Ho5 : Hid (Only (fun k => k = x) w3 ((set2 w3 x q (ct + 1)).setCell ⟨x, 3, none⟩ (.int .i64 ((len : Nat) : Int)))) := Lib.hid (((((Only.refl (fun k => k = x) w3).setCell ⟨x, 1, none⟩ _ (.inl rfl)).setCell ⟨x, 2, none⟩ _ (.inl rfl)).setCell ⟨x, 3, none⟩ _ (.inl rfl)).setCell ⟨x, 3, none⟩ _ (.inl rfl))
      clear hq hne hct' hsz'
      go_wp2
      go_ret
      exact Hend.out _ Ho5.out Hw5.out
  · have h0z : (v != 0) = true := by rw [bne_iff_ne]; exact h0
    have HK := Lib.hid (checked_any x a la ct sz v w3 W3.out)
    have Hv0 := Lib.hid h0
    clear h0
    go_wp2_with fail
    refine HK.out.mono ?_
    rintro e w4 ⟨rfl, ho4, hv4⟩
    have Hend : Hid (WCall G a x F v s' q ct' sz' w (.returned (.int .i64 v)) w4) := Lib.hid
      ⟨rfl, F3, G.stay Hd3.out ho4.size (fun k hk => ho4.block k (G.foot Hd3.out k hk) (fun e => Nx3.out (e ▸ hk))), (On3.out.mono (fun k hk => .inl hk)).trans (ho4.mono (fun k hk => .inr hk)), Hk3.out, Nx3.out, fun h => (Hv0.out h).elim⟩
    clear ho4 hv4
    go_wp2
    go_ret
    exact Hend.out
end Go.Proofs.YtdneobnnmmlebaaGreatDoor

/-
  The contract of Append.
-/
namespace Go.Proofs.YtdneobnnmmlebaaGreatDoor
open Go.RowKit

theorem fit_sync {s : St} (h : Fit s) (nm : List UInt8) : Fit (syncS nm s).2 := by
  have hb : Fit (burnS s) := ⟨h.room0, h.room1, by show -1 ≤ (if 0 < s.fuse then s.fuse - 1 else s.fuse); have := h.fuse0; split <;> omega, by show (if 0 < s.fuse then s.fuse - 1 else s.fuse) ≤ _; have := h.fuse1; split <;> omega, h.used, h.len⟩
  unfold syncS onS
  split
  · exact h
  · split
    · exact h
    · simp only
      split
      · exact hb
      · refine ⟨hb.room0, hb.room1, hb.fuse0, hb.fuse1, ?_, by show (s.files.modify _ syncF).length ≤ _; rw [List.length_modify]; exact h.len⟩
        refine Nat.le_trans (usedL_modify syncF 0 (fun f => ?_) s.files _) (by simpa using h.used)
        unfold sizeF syncF
        simp only [List.length_append, List.length_nil]
        omega
set_option maxRecDepth 100000 in
theorem append_none (A : Option Addr) (cap : Nat) (x : Nat) (a : Addr) (la ct sz : Nat) (w : World) (hw : WalM w x a la ct sz) (hct : 0 < ct) : Calls Tryz.prog 13 #[.pointer (some ⟨x, 0, none⟩), .slice A 0 cap] w fun e w' => e = .returned (.int .i64 0) ∧ Below w.heap.size w w' := by
  have HC := Lib.hid (closed_any x a la ct sz w hw)
  have HV := Lib.hid (allValid_any [] A 0 cap w rfl (fun j v hj => by simp [rcC] at hj) (fun r hr => by cases hr) (by omega))
  have hct0 : ((ct : Int) == 0) = false := by rw [beq_eq_false_iff_ne]; omega
  have Hw := Lib.hid hw
  have Hxl := Lib.hid (Holds.lt hw)
  clear hw
  go_enter Tryz.func13, Tryz.ntmps13
  go_wp2_with (go_at_call 30; refine HC.out.mono ?_; rintro e w' ⟨rfl, hww⟩; replace hww := hww.symm; subst hww)
  go_wp2_with fail
  refine HV.out.mono ?_
  rintro e w1 ⟨rfl, hb1⟩
  have e2 : w1.cell? ⟨x, 2, none⟩ = some (.int .i64 (ct : Nat)) := (hb1.cell (p := ⟨x, 2, none⟩) Hxl.out).trans Hw.out.cells.2.2.1
  have B1 := Lib.hid hb1
  clear hb1 HV
  go_wp2
  go_ret
  exact ⟨rfl, B1.out⟩
set_option maxRecDepth 100000 in
set_option maxHeartbeats 8000000 in
theorem wappend_any (G : GoodD) (a : Addr) (x la ct sz : Nat) (F : Nat → Prop) (s : St) (w : World) (l : List Rc) (A : Option Addr) (n cap : Nat) (hd : G.D w a F s) (hfit : Fit s) (hw : WalM w x a la ct sz) (hx : ¬ F x) (hla : la < mostS) (hct : ct ≤ 999999999999) (hct0 : 0 < ct) (ht : TabF (fun k => F k ∨ k = x) w)
    (hlen : l.length = n) (hn0 : 0 < n) (hrow : RowAt w A (rcC l)) (hA : ∀ g off, A = some (⟨g, off, none⟩ : Addr) → ¬ F g ∧ g ≠ x) (hok : ∀ r ∈ l, rightR r) (hu : (framesL l).length ≤ 500000) :
    Calls Tryz.prog 13 #[.pointer (some ⟨x, 0, none⟩), .slice A n cap] w (WCall G a x F (appendW l ⟨0, la, sz⟩ s).1 (appendW l ⟨0, la, sz⟩ s).2 (appendL l ⟨0, la, sz⟩).last (if 2048 ≤ sz then ct + 1 else ct) (appendL l ⟨0, la, sz⟩).size w) := by
  have hnm : n ≤ 9223372036854775807 := by have := framesL_len_le l; omega
  have HC := Lib.hid (closed_any x a la ct sz w hw)
  have HV := Lib.hid (allValid_any l A n cap w hlen hrow hok hnm)
  have hctz : ((ct : Int) == 0) = false := by rw [beq_eq_false_iff_ne]; omega
  have hnz : ((n : Int) == 0) = false := by rw [beq_eq_false_iff_ne]; omega
  have hlz : ((la : Int) == 999999999999) = false := by rw [beq_eq_false_iff_ne]; unfold mostS at hla; omega
  have Hw := Lib.hid hw
  have Hx := Lib.hid hx
  have Hxl := Lib.hid (Holds.lt hw)
  have HP := Lib.hid (And.intro hfit (And.intro hlen (And.intro hok (And.intro hu hA))))
  have Hd := Lib.hid hd
  have Ht := Lib.hid ht
  have Hrow := Lib.hid hrow
  have Hla := Lib.hid hla
  have Hct := Lib.hid (And.intro hct hct0)
  clear hd hfit hw hx ht hlen hrow hA hok hu hla hct hct0 hn0
  by_cases h2048 : 2048 ≤ sz
  · have hsz : ¬ (sz : Int) < 2048 := by omega
    have HS := Lib.hid (fun (W : World) (hb : Below w.heap.size w W) => wsync_any G a x la ct sz F s W (G.below Hd.out hb) HP.out.1 (Hw.out.only (F := fun _ => False) (Only.of_below hb (fun i hi => .inr hi)) id) Hx.out (Nat.le_of_lt Hla.out) Hct.out.2 (Ht.out.below hb))
    have Hq : Hid (appendW l ⟨0, la, sz⟩ s = if (syncS (fileL la) s).1 ≠ 0 then syncS (fileL la) s else appendS (fileL (la + 1)) (framesL l) (syncS (fileL la) s).2) := Lib.hid (by unfold appendW; rw [if_pos h2048])
    have Hl : Hid (appendL l ⟨0, la, sz⟩ = ⟨0, la + 1, (framesL l).length⟩) := Lib.hid (by unfold appendL; rw [if_pos h2048])
    rw [if_pos h2048, Hl.out]
    have Hfs := Lib.hid (fit_sync HP.out.1 (fileL la))
    obtain ⟨r, hr⟩ : ∃ r, r = syncS (fileL la) s := ⟨_, rfl⟩
    rw [← hr] at HS Hq Hfs
    generalize appendW l ⟨0, la, sz⟩ s = res at *
    clear hr h2048
    obtain ⟨v, s'⟩ := r
    simp only at HS Hq Hfs ⊢
    go_enter Tryz.func13, Tryz.ntmps13
    go_wp2_with (go_at_call 30; refine HC.out.mono ?_; rintro e w' ⟨rfl, hww⟩; replace hww := hww.symm; subst hww)
    go_wp2_with fail
    refine HV.out.mono ?_
    rintro e w1 ⟨rfl, hb1⟩
    have W1 := Lib.hid (Hw.out.only (F := fun _ => False) (Only.of_below hb1 (fun i hi => .inr hi)) id)
    obtain ⟨_, e1, e2, e3, _⟩ := W1.out.cells
    have B1 := Lib.hid hb1
    clear hb1 HV
    go_wp2_with fail
    refine (HS.out _ B1.out).mono ?_
    rintro e w2 ⟨rfl, F2, hd2, ho2, hg2, nx2, hw2⟩
    have On2 : Hid (Only (fun k => F k ∨ k = x) w w2) := Lib.hid (((Only.refl _ w).below_new B1.out).trans ho2)
    have Hk2 : Hid (∀ k, F2 k → F k ∨ w.heap.size ≤ k) := Lib.hid (fun k hk => (hg2 k hk).imp id (fun h => Nat.le_trans B1.out.size h))
    by_cases h0 : v = 0
    · subst h0
      have hq := Hq.out
      rw [if_neg (by simp)] at hq
      subst hq
      have W2 := Lib.hid (hw2 rfl)
      have e1' := W2.out.cells.2.1
      have hwl : IntKind.i64.wrap ((la : Int) + 1) = ((la + 1 : Nat) : Int) := by rw [IntKind.wrap_i64]; have := Hla.out; unfold mostS at this; omega
      have HE := Lib.hid (extend_any G a x la ct sz (la + 1) F2 s' w2 l A n cap hd2 Hfs.out W2.out nx2 (.inr rfl) Hla.out (by have := Hct.out.1; omega) (Ht.out.only On2.out (fun k hk => hk.elim (fun h => (Hk2.out k h).imp .inl id) (fun h => .inl (.inr h)))) HP.out.2.1 (row_only Hrow.out On2.out (fun g off e h0 h => by have := HP.out.2.2.2.2 g off e; exact h.elim this.1 this.2)) HP.out.2.2.1 HP.out.2.2.2.1)
      rw [if_neg (by omega), if_neg (by omega), Nat.zero_add] at HE
      clear hd2 ho2 hg2 nx2 hw2 HS e1 e2 e3
      go_wp2_with fail
      try rw [hwl]
      refine HE.out.mono ?_
      rintro e w3 ⟨rfl, F3, hd3, ho3, hg3, nx3, hw3⟩
      have Hend : Hid (WCall G a x F (appendS (fileL (la + 1)) (framesL l) s').1 (appendS (fileL (la + 1)) (framesL l) s').2 (la + 1) (ct + 1) (framesL l).length w (.returned (.int .i64 (appendS (fileL (la + 1)) (framesL l) s').1)) w3) := Lib.hid
        ⟨rfl, F3, hd3, On2.out.then ho3 (fun k hk => hk.elim (fun h => (Hk2.out k h).imp .inl id) (fun h => .inl (.inr h))), fun k hk => (hg3 k hk).elim (Hk2.out k) (fun h => .inr (Nat.le_trans On2.out.size h)), nx3, hw3⟩
      clear hd3 ho3 hg3 nx3 hw3 HE
      go_wp2
      go_ret
      exact Hend.out
    · have hv : (v != 0) = true := by rw [bne_iff_ne]; exact h0
      have hq := Hq.out
      rw [if_pos h0] at hq
      subst hq
      have Hend : Hid (WCall G a x F v s' (la + 1) (ct + 1) (framesL l).length w (.returned (.int .i64 v)) w2) := Lib.hid ⟨rfl, F2, hd2, On2.out, Hk2.out, nx2, fun h => absurd h h0⟩
      clear hd2 ho2 hg2 nx2 hw2 HS h0
      go_wp2
      go_ret
      exact Hend.out
  · have hsz : (sz : Int) < 2048 := by omega
    have HE := Lib.hid (fun (W : World) (hb : Below w.heap.size w W) => extend_any G a x la ct sz la F s W l A n cap (G.below Hd.out hb) HP.out.1 (Hw.out.only (F := fun _ => False) (Only.of_below hb (fun i hi => .inr hi)) id) Hx.out (.inl ⟨rfl, by omega⟩) (Nat.le_of_lt Hla.out) (by have := Hct.out.1; omega) (Ht.out.below hb) HP.out.2.1 (rowR_below Hrow.out hb) HP.out.2.2.1 HP.out.2.2.2.1)
    have Hq : Hid (appendW l ⟨0, la, sz⟩ s = appendS (fileL la) (framesL l) s) := Lib.hid (by unfold appendW; rw [if_neg h2048])
    have Hl : Hid (appendL l ⟨0, la, sz⟩ = ⟨0, la, sz + (framesL l).length⟩) := Lib.hid (by unfold appendL; rw [if_neg h2048])
    rw [if_neg h2048, Hl.out, Hq.out]
    rw [if_pos rfl, if_pos rfl] at HE
    clear h2048
    generalize appendS (fileL la) (framesL l) s = res at *
    go_enter Tryz.func13, Tryz.ntmps13
    go_wp2_with (go_at_call 30; refine HC.out.mono ?_; rintro e w' ⟨rfl, hww⟩; replace hww := hww.symm; subst hww)
    go_wp2_with fail
    refine HV.out.mono ?_
    rintro e w1 ⟨rfl, hb1⟩
    have W1 := Lib.hid (Hw.out.only (F := fun _ => False) (Only.of_below hb1 (fun i hi => .inr hi)) id)
    obtain ⟨_, e1, e2, e3, _⟩ := W1.out.cells
    have B1 := Lib.hid hb1
    clear hb1 HV
    go_wp2_with fail
    refine (HE.out _ B1.out).mono ?_
    rintro e w3 ⟨rfl, F3, hd3, ho3, hg3, nx3, hw3⟩
    have Hend : Hid (WCall G a x F res.1 res.2 la ct (sz + (framesL l).length) w (.returned (.int .i64 res.1)) w3) := Lib.hid
      ⟨rfl, F3, hd3, ((Only.refl _ w).below_new B1.out).trans ho3, fun k hk => (hg3 k hk).imp id (fun h => Nat.le_trans B1.out.size h), nx3, hw3⟩
    clear hd3 ho3 hg3 nx3 hw3 HE
    go_wp2
    go_ret
    exact Hend.out
end Go.Proofs.YtdneobnnmmlebaaGreatDoor

/-
  The contract of Start.
-/
namespace Go.Proofs.YtdneobnnmmlebaaGreatDoor
open Go.RowKit

theorem fit_append {s : St} (h : Fit s) (hl : s.files.length ≤ 999999) (nm b : List UInt8) : Fit (appendS nm b s).2 := by
  have g := append_grows nm b s
  refine ⟨g.room0 h.room0, g.room1 h.room1, g.fuse0 h.fuse0, g.fuse1 h.fuse1, ?_, Nat.le_trans g.len (by omega)⟩
  have hu := g.used
  by_cases hr : s.room < ((usedL s.files + b.length : Nat) : Int)
  · have : usedL (appendS nm b s).2.files = usedL s.files := by
      unfold appendS
      split
      · rfl
      · split
        · rfl
        · rfl
    rw [this]; exact h.used
  · have := h.room1
    omega
theorem fit_remove {s : St} (h : Fit s) (nm : List UInt8) : Fit (removeS nm s).2 := by
  have hb : Fit (burnS s) := ⟨h.room0, h.room1, by show -1 ≤ (if 0 < s.fuse then s.fuse - 1 else s.fuse); have := h.fuse0; split <;> omega, by show (if 0 < s.fuse then s.fuse - 1 else s.fuse) ≤ _; have := h.fuse1; split <;> omega, h.used, h.len⟩
  unfold removeS onS
  split
  · exact h
  · split
    · exact h
    · rename_i i _
      simp only
      split
      · exact hb
      · refine ⟨hb.room0, hb.room1, hb.fuse0, hb.fuse1, ?_, ?_⟩
        · show usedL (s.files.take i ++ s.files.drop (i + 1)) ≤ _
          have h1 := usedL_split s.files i
          have h2 : usedL (s.files.drop (i + 1)) ≤ usedL (s.files.drop i) := by
            have := usedL_split (s.files.drop i) 1
            rw [List.drop_drop] at this
            omega
          rw [usedL_append]
          have := h.used
          omega
        · show (s.files.take i ++ s.files.drop (i + 1)).length ≤ _
          rw [List.length_append, List.length_take, List.length_drop]
          have := h.len
          omega
theorem remsS_step {k n : Nat} {s : St} : remsS (k + 1) n s = if (removeS (fileL n) s).1 ≠ 0 then removeS (fileL n) s else remsS k (n + 1) (removeS (fileL n) s).2 := rfl

set_option maxRecDepth 100000 in
set_option maxHeartbeats 8000000 in
theorem wstart_any (G : GoodD) (a : Addr) (x fi la ct sz : Nat) (F : Nat → Prop) (s : St) (w : World) (l : List Rc) (A : Option Addr) (n cap : Nat) (hd : G.D w a F s) (hfit : Fit s) (hfl : s.files.length ≤ 999999) (hw : WalM w x a la ct sz) (hx : ¬ F x) (hla : la < mostS) (hct : (la = 0 ∧ ct = 0) ∨ (1 ≤ fi ∧ 1 ≤ ct ∧ fi + ct = la + 1)) (ht : TabF (fun k => F k ∨ k = x) w)
    (hlen : l.length = n) (hrow : RowAt w A (rcC l)) (hok : ∀ r ∈ l, rightR r) (hu : (framesL l).length ≤ 500000) :
    Calls Tryz.prog 11 #[.pointer (some ⟨x, 0, none⟩), .slice A n cap] w (WCall G a x F (startW l ⟨fi, la, sz⟩ s).1 (startW l ⟨fi, la, sz⟩ s).2 (la + 1) 1 (startT l).length w) := by
  have hnm : n ≤ 500000 := by have := framesL_len_le l; omega
  have HC := Lib.hid (closed_any x a la ct sz w hw)
  have HV := Lib.hid (allValid_any l A n cap w hlen hrow hok (by omega))
  have hlz : ((la : Int) == 999999999999) = false := by rw [beq_eq_false_iff_ne]; unfold mostS at hla; omega
  have hhd : (headL n).length ≤ 200 := by
    have h1 := wide_pay (headR_wide (k := n) (by unfold top; omega))
    rw [head_frame, frame_len]
    unfold payL headR
    have h9 : ∀ m, m ≤ top → (encL m).length ≤ 9 := fun m hm => encL_le9 hm
    have a1 := h9 (Int.toNat 1) (by unfold top; decide)
    have a2 := h9 ((n : Int).toNat) (by unfold top; omega)
    have a3 := h9 (Int.toNat 0) (by unfold top; decide)
    have a4 := h9 ([] : List UInt8).length (by unfold top; decide)
    simp only [List.length_append, List.length_nil] at *
    omega
  have HH := Lib.hid (fun (W : World) => header_any n W)
  have HF1 := Lib.hid (fun (W : World) (g : Nat) (h : RowAt W (some ⟨g, 0, none⟩) (rcC [headR n])) => framed_any [headR n] (some ⟨g, 0, none⟩) 1 1 W rfl h (fun r hr => by
    obtain rfl : r = headR n := by simpa using hr
    exact headR_wide (by unfold top; omega)) (by rw [framesL_cons, framesL_nil, List.append_nil, ← head_frame]; omega))
  have hfh : framesL [headR n] = headL n := by rw [framesL_cons, framesL_nil, List.append_nil]; rfl
  rw [hfh] at HF1
  have HF2 := Lib.hid (fun (W : World) (hb : Below w.heap.size w W) => framed_any l A n cap W hlen (rowR_below hrow hb) (fun r hr => (hok r hr).wide) (by omega))
  have hst : startT l = headL n ++ framesL l := by unfold startT; rw [hlen]
  have hstl : (startT l).length ≤ 1000000 := by rw [hst, List.length_append]; omega
  have hs1 : (bs (headL n)).size = (headL n).length := bs_size _
  have hs2 : (bs (framesL l)).size = (framesL l).length := bs_size _
  have hpp : bs (headL n) ++ bs (framesL l) = bs (startT l) := by rw [bs_append, ← hst]
  have hst3 : (bs (startT l)).size = (startT l).length := bs_size _
  have hh1 : (headL n).length ≤ 1000000 := by omega
  have hh2 : (framesL l).length ≤ 1000000 := by omega
  have HN := Lib.hid (fun (W : World) (hb : Below w.heap.size w W) => fileOf_any (la + 1) W (by unfold mostS at *; omega) (ht.below hb).here)
  have HA := Lib.hid (fun (W : World) (hb : Below w.heap.size w W) => G.append (fileL (la + 1)) (startT l) a F s W (G.below hd hb) hfit (by rw [fileL_len]; decide) hstl)
  have Hw := Lib.hid hw
  have Hx := Lib.hid hx
  have Hxl := Lib.hid (Holds.lt hw)
  have Hd := Lib.hid hd
  have Ht := Lib.hid ht
  have Hf1 := Lib.hid (fit_append hfit hfl (fileL (la + 1)) (startT l))
  have Hla := Lib.hid hla
  have Hct := Lib.hid hct
  have Hsw : Hid (startW l ⟨fi, la, sz⟩ s = if (appendS (fileL (la + 1)) (startT l) s).1 ≠ 0 then appendS (fileL (la + 1)) (startT l) s
      else if (syncS (fileL (la + 1)) (appendS (fileL (la + 1)) (startT l) s).2).1 ≠ 0 then syncS (fileL (la + 1)) (appendS (fileL (la + 1)) (startT l) s).2
      else remsS ct fi (syncS (fileL (la + 1)) (appendS (fileL (la + 1)) (startT l) s).2).2) := Lib.hid (by
    have e : (if fi = 0 then 0 else la + 1 - fi) = ct := by
      rcases hct with ⟨h1, h2⟩ | ⟨h1, h2, h3⟩
      · split <;> omega
      · rw [if_neg (by omega)]; omega
    unfold startW
    simp only [e])
  obtain ⟨r1, hr1⟩ : ∃ r, r = appendS (fileL (la + 1)) (startT l) s := ⟨_, rfl⟩
  rw [← hr1] at HA Hf1 Hsw
  obtain ⟨len, hle⟩ : ∃ k, k = (startT l).length := ⟨_, rfl⟩
  rw [← hle] at hstl hst3
  rw [← hle]
  generalize startW l ⟨fi, la, sz⟩ s = res at *
  have hwl : IntKind.i64.wrap ((la : Int) + 1) = ((la + 1 : Nat) : Int) := by rw [IntKind.wrap_i64]; unfold mostS at hla; omega
  clear hd hfit hfl hw hx ht hrow hok hst hr1 hle hla hct hfh
  obtain ⟨v1, s1⟩ := r1
  simp only at HA Hf1 Hsw
  generalize (headL n).length = n1 at *
  generalize (framesL l).length = n2 at *
  generalize bs (headL n) = P1 at *
  generalize bs (framesL l) = P2 at *
  generalize bs (startT l) = PT at *
  unfold recV headR at HH
  unfold headR at HF1
  simp only at HH
  go_enter Tryz.func11, Tryz.ntmps11
  go_wp2_with (go_at_call 30; refine HC.out.mono ?_; rintro e w' ⟨rfl, hww⟩; replace hww := hww.symm; subst hww)
  go_wp2_with fail
  refine HV.out.mono ?_
  rintro e w1 ⟨rfl, hb1⟩
  have W1 := Lib.hid (Hw.out.only (F := fun _ => False) (Only.of_below hb1 (fun i hi => .inr hi)) id)
  have B1 := Lib.hid hb1
  obtain ⟨e0, e1, e2, e3, _⟩ := W1.out.cells
  clear hb1 HV
  go_wp2_with fail
  refine (HH.out _).mono ?_
  rintro e w2 ⟨rfl, hb2⟩
  have B2 := Lib.hid (B1.out.trans (below_mono' hb2 B1.out.size))
  obtain ⟨w3, hw3⟩ : ∃ w3, w3 = w2.alloc (.cells #[.int .i64 1, .int .i64 (n : Int), .int .i64 0, .int .i64 0, .string (bs [])] 28) := ⟨_, rfl⟩
  have B3 : Hid (Below w.heap.size w w3) := Lib.hid (by rw [hw3]; exact B2.out.alloc B2.out.size _)
  have R3 : Hid (RowAt w3 (some ⟨w2.heap.size, 0, none⟩) [.int .i64 1, .int .i64 (n : Int), .int .i64 0, .int .i64 0, .string (bs [])]) := Lib.hid (fun j u hu => by
    have hj : j < 5 := (List.getElem?_eq_some_iff.1 hu).1
    refine ⟨w2.heap.size, 0, rfl, by rw [hw3]; simp, ?_⟩
    rw [hw3]
    have : j = 0 ∨ j = 1 ∨ j = 2 ∨ j = 3 ∨ j = 4 := by omega
    rcases this with rfl | rfl | rfl | rfl | rfl <;> simp at hu <;> subst hu <;> simp)
  have Hw3 := Lib.hid hw3
  clear hb2 hw3 e0 e1 e2 e3
  go_wp2_with fail
  rw [← Hw3.out]
  refine (HF1.out w3 w2.heap.size (by unfold rcC recC1; simpa using R3.out)).mono ?_
  rintro e w4 ⟨rfl, hb4⟩
  have B4 := Lib.hid (B3.out.trans (below_mono' hb4 B3.out.size))
  clear hb4 R3 Hw3
  go_wp2_with fail
  refine (HF2.out _ B4.out).mono ?_
  rintro e w5 ⟨rfl, hb5⟩
  have B5 := Lib.hid (B4.out.trans (below_mono' hb5 B4.out.size))
  have W5 := Lib.hid (Hw.out.only (F := fun _ => False) (Only.of_below B5.out (fun i hi => .inr hi)) id)
  obtain ⟨e0, e1, e2, e3, _⟩ := W5.out.cells
  clear hb5 HF1 HF2
  go_wp2_with fail
  try rw [hwl]
  refine (HN.out _ B5.out).mono ?_
  rintro e w6 ⟨rfl, hb6⟩
  have B6 := Lib.hid (B5.out.trans (below_mono' hb6 B5.out.size))
  have W6 := Lib.hid (Hw.out.only (F := fun _ => False) (Only.of_below B6.out (fun i hi => .inr hi)) id)
  clear e0 e1 e2 e3 hb6
  obtain ⟨e0, e1, e2, e3, _⟩ := W6.out.cells
  go_wp2_with fail
  refine (HA.out _ B6.out).mono ?_
  rintro e w7 ⟨rfl, F7, hd7, ho7, hg7⟩
  have On7 : Hid (Only F w w7) := Lib.hid (((Only.refl F w).below_new B6.out).trans ho7)
  have Hk7 : Hid (∀ k, F7 k → F k ∨ w.heap.size ≤ k) := Lib.hid (fun k hk => (hg7 k hk).imp id (fun h => Nat.le_trans B6.out.size h))
  have Nx7 : Hid (¬ F7 x) := Lib.hid (fun h => (hg7 x h).elim Hx.out (fun h => by have := Hxl.out; have := B6.out.size; omega))
  have W7 := Lib.hid (Hw.out.only On7.out Hx.out)
  have Hd7 := Lib.hid hd7
  clear e0 e1 e2 e3 hd7 ho7 hg7 HA
  by_cases h1 : v1 = 0
  · subst h1
    have hsw := Hsw.out
    rw [if_neg (by simp)] at hsw
    obtain ⟨e0, e1, e2, e3, _⟩ := W7.out.cells
    have HS := Lib.hid (G.sync (fileL (la + 1)) a F7 s1 w7 (by rw [fileL_len]; decide) Hd7.out Hf1.out)
    have Hf2 := Lib.hid (fit_sync Hf1.out (fileL (la + 1)))
    obtain ⟨r2, hr2⟩ : ∃ r, r = syncS (fileL (la + 1)) s1 := ⟨_, rfl⟩
    rw [← hr2] at HS hsw Hf2
    have Hsw2 := Lib.hid hsw
    clear hr2 hsw
    obtain ⟨v2, s2⟩ := r2
    simp only at HS Hsw2 Hf2
    go_wp2_with fail
    refine HS.out.mono ?_
    rintro e w8 ⟨rfl, F8, hd8, ho8, hg8⟩
    have On8 : Hid (Only F w w8) := Lib.hid (On7.out.then ho8 Hk7.out)
    have Hk8 : Hid (∀ k, F8 k → F k ∨ w.heap.size ≤ k) := Lib.hid (fun k hk => (hg8 k hk).elim (Hk7.out k) (fun h => .inr (Nat.le_trans On7.out.size h)))
    have Nx8 : Hid (¬ F8 x) := Lib.hid (fun h => (hg8 x h).elim Nx7.out (fun h => by have := Hxl.out; have := On7.out.size; omega))
    have W8 := Lib.hid (Hw.out.only On8.out Hx.out)
    have Hd8 := Lib.hid hd8
    clear e0 e1 e2 e3 hd8 ho8 hg8 HS
    by_cases h2 : v2 = 0
    · subst h2
      have hsw := Hsw2.out
      rw [if_neg (by simp)] at hsw
      have Hres := Lib.hid hsw
      clear hsw
      obtain ⟨e0, e1, e2, e3, _⟩ := W8.out.cells
      obtain ⟨f0, hf0⟩ : ∃ f0, f0 = la + 1 - ct := ⟨_, rfl⟩
      have hctl : ct ≤ la := by rcases Hct.out with ⟨h1, h2⟩ | ⟨h1, h2, h3⟩ <;> omega
      have hla9 : la ≤ 999999999998 := by have := Hla.out; unfold mostS at this; omega
      have hw1 : IntKind.i64.wrap ((la : Int) - (ct : Int)) = (la : Int) - (ct : Int) := by rw [IntKind.wrap_i64]; omega
      have hw2 : IntKind.i64.wrap ((la : Int) - (ct : Int) + 1) = (f0 : Int) := by rw [IntKind.wrap_i64]; omega
      have hw3 : (la : Int) - (ct : Int) + 1 = (f0 : Int) := by omega
      have Hf0 := Lib.hid hf0
      have D0 : Hid (∀ W, Below w8.heap.size w8 W → ∃ Fi, G.D W a Fi s2 ∧ Only (fun k => F k ∨ k = x) w W ∧ (∀ k, Fi k → F k ∨ w.heap.size ≤ k) ∧ ¬ Fi x ∧ WalM W x a la ct sz) := Lib.hid (fun W hb => ⟨F8, G.below Hd8.out hb, (On8.out.mono (fun k h => .inl h)).below_new hb, Hk8.out, Nx8.out, W8.out.only (F := fun _ => False) (Only.of_below hb (fun i hi => .inr hi)) id⟩)
      clear hf0
      go_wp2_with fail
      go_quiet (fail)
      obtain ⟨w9, hw9⟩ : ∃ w9, w9 = w8.drewN nq := ⟨_, rfl⟩
      rw [← hw9]
      have I9 := Lib.hid (D0.out w9 (by rw [hw9]; exact below_drewN (Below.refl _ _) nq))
      clear e0 e1 e2 e3 hw9 hw1 hw2 hw3 D0
      go_wp2
      go_loopw [9] (fun nv wr => ∃ (i : Nat) (Fi : Nat → Prop) (si : St), i ≤ ct ∧ nv = .int .i64 ((f0 + i : Nat) : Int) ∧ G.D wr a Fi si ∧ Only (fun k => F k ∨ k = x) w wr ∧ (∀ k, Fi k → F k ∨ w.heap.size ≤ k) ∧ ¬ Fi x ∧ WalM wr x a la ct sz ∧ Fit si ∧ res = remsS (ct - i) (fi + i) si) (fun nv _ => ct + f0 - (intOf nv).toNat)
      case atStart =>
        obtain ⟨Fi, h1, h2, h3, h4, h5⟩ := I9.out
        exact ⟨0, Fi, s2, Nat.zero_le _, rfl, h1, h2, h3, h4, h5, Hf2.out, Hres.out⟩
      case round =>
        clear I9
        obtain ⟨i, Fi, si, hi, rfl, hdi, hoi, hgi, nxi, hwi, hfi, hri⟩ := hrel
        have Hdi := Lib.hid hdi
        have Hoi := Lib.hid hoi
        have Hgi := Lib.hid hgi
        have Nxi := Lib.hid nxi
        have Wi := Lib.hid hwi
        have Fti := Lib.hid hfi
        have Hri := Lib.hid hri
        obtain ⟨e0, e1, e2, e3, _⟩ := hwi.cells
        clear hdi hoi hgi nxi hwi hfi hri
        by_cases hlt : i < ct
        · have hle : ((f0 + i : Nat) : Int) ≤ (la : Int) := by have := Hf0.out; omega
          have hfeq : fi = f0 := by rcases Hct.out with ⟨h1, h2⟩ | ⟨h1, h2, h3⟩ <;> have := Hf0.out <;> omega
          have hq9 : f0 + i ≤ mostS := by unfold mostS; omega
          have hres := Hri.out
          rw [show ct - i = (ct - (i + 1)) + 1 by omega, remsS_step, hfeq] at hres
          have HFn := Lib.hid (fun (W : World) (hb : Below wr.heap.size wr W) => fileOf_any (f0 + i) W hq9 ((Ht.out.only Hoi.out (F' := fun k => Fi k ∨ k = x) (fun k hk => hk.elim (fun h => (Hgi.out k h).imp .inl id) (fun h => .inl (.inr h)))).below hb).here)
          have HRm := Lib.hid (fun (W : World) (hb : Below wr.heap.size wr W) => G.remove (fileL (f0 + i)) a Fi si W (by rw [fileL_len]; decide) (G.below Hdi.out hb) Fti.out)
          have Fti2 := Lib.hid (fit_remove Fti.out (fileL (f0 + i)))
          obtain ⟨r3, hr3⟩ : ∃ r, r = removeS (fileL (f0 + i)) si := ⟨_, rfl⟩
          rw [← hr3] at HRm hres Fti2
          have Hres3 := Lib.hid hres
          obtain ⟨q, hq⟩ : ∃ q, q = f0 + i := ⟨_, rfl⟩
          rw [← hq] at hle HFn HRm hq9 ⊢
          have Hq := Lib.hid hq
          have Hfeq := Lib.hid hfeq
          have hqb : q ≤ 999999999999 := hq9
          have Hxli : Hid (x < wr.heap.size) := Lib.hid (Holds.lt Wi.out)
          clear hres hr3 hfeq hq hq9
          obtain ⟨v3, s3⟩ := r3
          simp only at HRm Hres3 Fti2
          go_wp2_with fail
          go_region_held3 (fun W => W.cell? ⟨x, 0, none⟩ = some (.pointer (some a)))
            (first
              | exact e0
              | exact (Hob.out.cell (p := ⟨x, 0, none⟩) (Nat.lt_of_lt_of_le Hxli.out Hba.out.size) Nxi.out).trans ((Hba.out.cell (p := ⟨x, 0, none⟩) Hxli.out).trans e0)
              | exact (Hba.out.cell (p := ⟨x, 0, none⟩) Hxli.out).trans e0
              | go_keep)
            (first
              | (go_at_call 34; refine (HFn.out _ ((Below.refl _ wr).drew)).mono ?_; rintro e wa ⟨rfl, hba⟩; have Hba : Hid (Below wr.heap.size wr wa) := Lib.hid ((Below.refl _ wr).drew.trans hba); clear hba)
              | (go_at_call 37; refine (HRm.out _ Hba.out).mono ?_; rintro e wb ⟨rfl, Fb, hdb, hob, hgb⟩; have Hdb := Lib.hid hdb; have Hob := Lib.hid hob; have Hgb := Lib.hid hgb; clear hdb hob hgb)
              | fail "no arm")
          have Onb : Hid (Only (fun k => F k ∨ k = x) w wb) := Lib.hid ((Hoi.out.below_new Hba.out).then Hob.out (fun k hk => (Hgi.out k hk).imp .inl id))
          have Hkb : Hid (∀ k, Fb k → F k ∨ w.heap.size ≤ k) := Lib.hid (fun k hk => (Hgb.out k hk).elim (Hgi.out k) (fun h => .inr (Nat.le_trans (Nat.le_trans Hoi.out.size Hba.out.size) h)))
          have Nxb : Hid (¬ Fb x) := Lib.hid (fun h => (Hgb.out x h).elim Nxi.out (fun h => by have := Hxli.out; have := Hba.out.size; omega))
          have Wb := Lib.hid ((Wi.out.only (F := fun _ => False) (Only.of_below Hba.out (fun i hi => .inr hi)) id).only Hob.out Nxi.out)
          clear e0 e1 e2 e3 HFn HRm
          by_cases h3 : v3 = 0
          · subst h3
            have hr := Hres3.out
            rw [if_neg (by simp)] at hr
            have Hrn : Hid (res = remsS (ct - (i + 1)) (fi + (i + 1)) s3) := Lib.hid (by rw [hr, Hfeq.out, Nat.add_assoc])
            clear hr
            go_wp2
            go_roundw
            case rel => exact ⟨i + 1, Fb, s3, by omega, by rw [Hq.out]; go_num, Hdb.out, Onb.out, Hkb.out, Nxb.out, Wb.out, Fti2.out, Hrn.out⟩
            case measure => simp [intOf]; have := Hq.out; omega
          · have hv : (v3 != 0) = true := by rw [bne_iff_ne]; exact h3
            have hr := Hres3.out
            rw [if_pos h3] at hr
            have Hrn := Lib.hid hr
            have HK := Lib.hid (checked_any x a la ct sz v3 wb Wb.out)
            have Hv := Lib.hid h3
            clear hr h3
            go_wp2_with fail
            refine HK.out.mono ?_
            rintro e wc ⟨rfl, hoc, _⟩
            have Hend : Hid (WCall G a x F res.1 res.2 (la + 1) 1 len w (.returned (.int .i64 v3)) wc) := Lib.hid (by
              rw [Hrn.out]
              exact ⟨rfl, Fb, G.stay Hdb.out hoc.size (fun k hk => hoc.block k (G.foot Hdb.out k hk) (fun e => Nxb.out (e ▸ hk))), Onb.out.trans (hoc.mono (fun k h => .inr h)), Hkb.out, Nxb.out, fun h => absurd h Hv.out⟩)
            clear hoc HK
            go_wp2
            go_ret
            exact Hend.out
        · have hle : ¬ ((f0 + i : Nat) : Int) ≤ (la : Int) := by have := Hf0.out; omega
          have hr := Hri.out
          rw [show ct - i = 0 by omega] at hr
          have Hrn : Hid (res = (0, si)) := Lib.hid hr
          have Ws := Lib.hid (set3_wal Wi.out (la + 1) 1 len)
          have Os := Lib.hid (set3_only (F := fun k => k = x) (Only.refl _ wr) (.inl rfl) (la + 1) 1 len)
          have f1 := Wi.out.cells.2.2.2.2.1
          have f2 := Wi.out.cells.2.2.2.2.2.1
          have f3 := Wi.out.cells.2.2.2.2.2.2
          have Hend : Hid (∀ wz, WalM wz x a (la + 1) 1 len → Only (fun k => k = x) wr wz → WCall G a x F res.1 res.2 (la + 1) 1 len w (.returned (.int .i64 0)) wz) := Lib.hid (fun wz h1 h2 => by
            rw [Hrn.out]
            exact ⟨rfl, Fi, G.stay Hdi.out h2.size (fun k hk => h2.block k (G.foot Hdi.out k hk) (fun e => Nxi.out (e ▸ hk))), Hoi.out.trans (h2.mono (fun k h => .inr h)), Hgi.out, Nxi.out, fun _ => h1⟩)
          clear hr
          obtain ⟨q, hq⟩ : ∃ q, q = f0 + i := ⟨_, rfl⟩
          rw [← hq] at hle ⊢
          clear hq
          go_wp2
          go_ret
          exact Hend.out _ Ws.out Os.out
    · have hv : (v2 != 0) = true := by rw [bne_iff_ne]; exact h2
      have hsw := Hsw2.out
      rw [if_pos h2] at hsw
      have Hres := Lib.hid hsw
      have HK := Lib.hid (checked_any x a la ct sz v2 w8 W8.out)
      have Hv := Lib.hid h2
      clear hsw h2
      go_wp2_with fail
      refine HK.out.mono ?_
      rintro e w9 ⟨rfl, ho9, _⟩
      have Hend : Hid (WCall G a x F res.1 res.2 (la + 1) 1 len w (.returned (.int .i64 v2)) w9) := Lib.hid (by
        rw [Hres.out]
        exact ⟨rfl, F8, G.stay Hd8.out ho9.size (fun k hk => ho9.block k (G.foot Hd8.out k hk) (fun e => Nx8.out (e ▸ hk))), (On8.out.mono (fun k h => .inl h)).trans (ho9.mono (fun k h => .inr h)), Hk8.out, Nx8.out, fun h => absurd h Hv.out⟩)
      clear ho9 HK
      go_wp2
      go_ret
      exact Hend.out
  · have hv : (v1 != 0) = true := by rw [bne_iff_ne]; exact h1
    have hsw := Hsw.out
    rw [if_pos h1] at hsw
    have Hres := Lib.hid hsw
    have HK := Lib.hid (checked_any x a la ct sz v1 w7 W7.out)
    have Hv := Lib.hid h1
    clear hsw h1
    go_wp2_with fail
    refine HK.out.mono ?_
    rintro e w9 ⟨rfl, ho9, _⟩
    have Hend : Hid (WCall G a x F res.1 res.2 (la + 1) 1 len w (.returned (.int .i64 v1)) w9) := Lib.hid (by
      rw [Hres.out]
      exact ⟨rfl, F7, G.stay Hd7.out ho9.size (fun k hk => ho9.block k (G.foot Hd7.out k hk) (fun e => Nx7.out (e ▸ hk))), (On7.out.mono (fun k h => .inl h)).trans (ho9.mono (fun k h => .inr h)), Hk7.out, Nx7.out, fun h => absurd h Hv.out⟩)
    clear ho9 HK
    go_wp2
    go_ret
    exact Hend.out
end Go.Proofs.YtdneobnnmmlebaaGreatDoor
