/-
  The contract of (*wal.Wal).Sync.
-/
import Derived.Test.YtdneobnnmmlebaaGreatDoorLP
namespace Go.Proofs.YtdneobnnmmlebaaGreatDoor
open Go.RowKit

/-- What a call of the log leaves, its disk in blocks F, itself in block x. -/
def WCall (G : GoodD) (a : Addr) (x : Nat) (F : Nat → Prop) (v : Int) (s' : St) (la ct sz : Nat) (w : World) (e : Ending) (w' : World) : Prop :=
  e = .returned (.int .i64 v) ∧ ∃ F', G.D w' a F' s' ∧ Only (fun k => F k ∨ k = x) w w' ∧ (∀ k, F' k → F k ∨ w.heap.size ≤ k) ∧ ¬ F' x ∧ (v = 0 → WalM w' x a la ct sz)
set_option maxRecDepth 100000 in
set_option maxHeartbeats 8000000 in
theorem wsync_any (G : GoodD) (a : Addr) (x la ct sz : Nat) (F : Nat → Prop) (s : St) (w : World) (hd : G.D w a F s) (hfit : Fit s) (hw : WalM w x a la ct sz) (hx : ¬ F x) (hla : la ≤ mostS) (hct : 0 < ct) (ht : TabF (fun k => F k ∨ k = x) w) :
    Calls Tryz.prog 14 #[.pointer (some ⟨x, 0, none⟩)] w (WCall G a x F (syncS (fileL la) s).1 (syncS (fileL la) s).2 la ct sz w) := by
  have HC := Lib.hid (closed_any x a la ct sz w hw)
  obtain ⟨e0, e1, e2, e3, f1, f2, f3⟩ := hw.cells
  have hct0 : ((ct : Int) == 0) = false := by rw [beq_eq_false_iff_ne]; omega
  have HF := Lib.hid (fun (W : World) (hb : Below w.heap.size w W) => fileOf_any la W hla (ht.below hb).here)
  have HS := Lib.hid (fun (W : World) (hb : Below w.heap.size w W) => G.sync (fileL la) a F s W (by rw [fileL_len]; decide) (G.below hd hb) hfit)
  have Hw := Lib.hid hw
  have Hx := Lib.hid hx
  have Hxl := Lib.hid (Holds.lt hw)
  have Hft := Lib.hid (G.foot hd)
  obtain ⟨r, hr⟩ : ∃ r, r = syncS (fileL la) s := ⟨_, rfl⟩
  rw [← hr] at HS
  rw [← hr]
  clear hd hfit hw hx ht hr
  obtain ⟨v, s'⟩ := r
  simp only at HS ⊢
  go_enter Tryz.func14, Tryz.ntmps14
  go_wp2_with (go_at_call 30; refine HC.out.mono ?_; rintro e w' ⟨rfl, rfl⟩)
  have HK := Lib.hid (fun (W : World) (h : WalM W x a la ct sz) => checked_any x a la ct sz v W h)
  have HH : Hid (∀ w2, Below w'.heap.size w' w2 → w2.cell? ⟨x, 0, none⟩ = some (.pointer (some a)) ∧ w2.cell? ⟨x, 1, none⟩ = some (.int .i64 (la : Nat))) := Lib.hid (fun w2 hb => ⟨(hb.cell (p := ⟨x, 0, none⟩) Hxl.out).trans e0, (hb.cell (p := ⟨x, 1, none⟩) Hxl.out).trans e1⟩)
  go_wp2_with fail
  go_region_with (first
    | (go_at_call 34; refine (HF.out _ ((Below.refl _ w').drew)).mono ?_; rintro e w2 ⟨rfl, hb2⟩; have Hb2 : Hid (Below w'.heap.size w' w2) := Lib.hid ((Below.refl _ w').drew.trans hb2); obtain ⟨g0, g1⟩ := HH.out w2 Hb2.out; clear hb2)
    | (go_at_call 36; refine (HS.out _ Hb2.out).mono ?_; rintro e w3 ⟨rfl, F3, hd3, ho3, hg3⟩; have Hd3 := Lib.hid hd3; have Ho3 := Lib.hid ho3; have Hg3 := Lib.hid hg3; clear hd3 ho3 hg3)
    | (go_at_call 35; refine (HK.out _ (((Hw.out.only (F := fun _ => False) (Only.of_below Hb2.out (fun i hi => .inr hi)) id)).only Ho3.out Hx.out)).mono ?_; rintro e w4 ⟨rfl, ho4, hv4⟩; have Ho4 := Lib.hid ho4; have Hv4 := Lib.hid hv4; clear ho4 hv4)
    | fail "no arm")
  all_goals
    go_wp2
    go_ret
    have W3 := ((Hw.out.only (F := fun _ => False) (Only.of_below Hb2.out (fun i hi => .inr hi)) id)).only Ho3.out Hx.out
    have hlt := Hb2.out.size
    refine ⟨rfl, F3, G.stay Hd3.out Ho4.out.size (fun k hk => Ho4.out.block k (G.foot Hd3.out k hk) (fun e => ?_)), ((((Only.refl _ _).below_new Hb2.out).trans (Ho3.out.mono (fun k hk => .inl hk)))).trans (Ho4.out.mono (fun k hk => .inr hk)), fun k hk => (Hg3.out k hk).imp id (fun h => Nat.le_trans hlt h), fun h => (Hg3.out x h).elim Hx.out (fun h => by have := Hxl.out; omega), fun h0 => by rw [Hv4.out h0]; exact W3⟩
    subst e
    exact (Hg3.out k hk).elim Hx.out (fun h => by have := Hxl.out; omega)
end Go.Proofs.YtdneobnnmmlebaaGreatDoor
