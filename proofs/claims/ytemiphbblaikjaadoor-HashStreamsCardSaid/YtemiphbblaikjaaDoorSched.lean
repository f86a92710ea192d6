/-
  The contract of hash.schedule: the words of the rounds.
-/
import Derived.Test.YtemiphbblaikjaaDoorMem
import Derived.Deep.AppendLies
import Derived.OwnWalk
import Derived.LoopTactic
import Derived.Outline
import Derived.RegionTactic
import Derived.BigRegion
import Derived.Deep.QuietTactic
import Derived.BigQuiet
import Derived.Laws.CopyOwn
namespace Go.Proofs.YtemiphbblaikjaaDoor
open Go.RowKit

/-- The first words. -/
def firstW (B : List UInt8) (k : Nat) : List (BitVec 32) := (List.range k).map (wordAt B)
theorem firstW_length (B : List UInt8) (k : Nat) : (firstW B k).length = k := by simp [firstW]
theorem firstW_succ (B : List UInt8) (k : Nat) : firstW B (k + 1) = firstW B k ++ [wordAt B k] := by
  simp [firstW, List.range_succ]
def ArrW (w : World) (g : Nat) (L : List (BitVec 32)) (k : Nat) : Prop := Holds w g 58 (woC (L ++ List.replicate (64 - k) 0))
def ByW (w : World) (g : Nat) (B : List UInt8) : Prop := Holds w g 50 (byC B)
def NilW (w : World) (g : Nat) : Prop := Holds w g 58 (woC (List.replicate 64 0))

theorem or_b (a b i : Nat) (hb : b < 2 ^ i) (h : 2 ^ i * a < 4294967296) (h' : b < 4294967296) : bits BinOp.or IntKind.u32 ((2 ^ i * a : Nat) : Int) (b : Int) = ((2 ^ i * a + b : Nat) : Int) := by
  rw [u32_or_nat _ _ h h', ← Nat.two_pow_add_eq_or_of_lt hb]
theorem word_be (x0 x1 x2 x3 : Nat) (y0 : x0 < 256) (y1 : x1 < 256) (y2 : x2 < 256) (y3 : x3 < 256) :
    bits BinOp.or IntKind.u32 (bits BinOp.or IntKind.u32 (bits BinOp.or IntKind.u32 ((x0 : Int) * 16777216) ((x1 : Int) * 65536)) ((x2 : Int) * 256)) (x3 : Int) =
      wI (BitVec.ofNat 32 (((x0 * 256 + x1) * 256 + x2) * 256 + x3)) := by
  rw [wI_ofNat _ (by omega)]
  have e1 := or_b x0 (x1 * 65536) 24 (by omega) (by omega) (by omega)
  have e2 := or_b (x0 * 256 + x1) (x2 * 256) 16 (by omega) (by omega) (by omega)
  have e3 := or_b ((x0 * 256 + x1) * 256 + x2) x3 8 (by omega) (by omega) (by omega)
  rw [show (x0 : Int) * 16777216 = ((2 ^ 24 * x0 : Nat) : Int) by omega, show (x1 : Int) * 65536 = ((x1 * 65536 : Nat) : Int) by omega, e1]
  rw [show ((2 ^ 24 * x0 + x1 * 65536 : Nat) : Int) = ((2 ^ 16 * (x0 * 256 + x1) : Nat) : Int) by omega, show (x2 : Int) * 256 = ((x2 * 256 : Nat) : Int) by omega, e2]
  rw [show ((2 ^ 16 * (x0 * 256 + x1) + x2 * 256 : Nat) : Int) = ((2 ^ 8 * ((x0 * 256 + x1) * 256 + x2) : Nat) : Int) by omega, e3]
  omega
theorem sched_mix (B : List UInt8) (i : Nat) (h : 16 ≤ i) : sched B (i + 1 - 16) = sched B (i - 16) ++ [mixW ((sched B (i - 16)).getD (i - 16) 0) ((sched B (i - 16)).getD (i - 15) 0) ((sched B (i - 16)).getD (i - 7) 0) ((sched B (i - 16)).getD (i - 2) 0)] := by
  obtain ⟨n, rfl⟩ : ∃ n, i = n + 16 := ⟨i - 16, by omega⟩
  rw [show n + 16 + 1 - 16 = n + 1 by omega, show n + 16 - 16 = n by omega, show n + 16 - 15 = n + 1 by omega, show n + 16 - 7 = n + 9 by omega, show n + 16 - 2 = n + 14 by omega]
  rfl
theorem sched_zero (B : List UInt8) : firstW B 16 = sched B 0 := rfl
theorem nil64 : (#[Value.int IntKind.u32 0, Value.int IntKind.u32 0, Value.int IntKind.u32 0, Value.int IntKind.u32 0, Value.int IntKind.u32 0, Value.int IntKind.u32 0, Value.int IntKind.u32 0, Value.int IntKind.u32 0, Value.int IntKind.u32 0, Value.int IntKind.u32 0, Value.int IntKind.u32 0, Value.int IntKind.u32 0, Value.int IntKind.u32 0, Value.int IntKind.u32 0, Value.int IntKind.u32 0, Value.int IntKind.u32 0, Value.int IntKind.u32 0, Value.int IntKind.u32 0, Value.int IntKind.u32 0, Value.int IntKind.u32 0, Value.int IntKind.u32 0, Value.int IntKind.u32 0, Value.int IntKind.u32 0, Value.int IntKind.u32 0, Value.int IntKind.u32 0, Value.int IntKind.u32 0, Value.int IntKind.u32 0, Value.int IntKind.u32 0, Value.int IntKind.u32 0, Value.int IntKind.u32 0, Value.int IntKind.u32 0, Value.int IntKind.u32 0, Value.int IntKind.u32 0, Value.int IntKind.u32 0, Value.int IntKind.u32 0, Value.int IntKind.u32 0, Value.int IntKind.u32 0, Value.int IntKind.u32 0, Value.int IntKind.u32 0, Value.int IntKind.u32 0, Value.int IntKind.u32 0, Value.int IntKind.u32 0, Value.int IntKind.u32 0, Value.int IntKind.u32 0, Value.int IntKind.u32 0, Value.int IntKind.u32 0, Value.int IntKind.u32 0, Value.int IntKind.u32 0, Value.int IntKind.u32 0, Value.int IntKind.u32 0, Value.int IntKind.u32 0, Value.int IntKind.u32 0, Value.int IntKind.u32 0, Value.int IntKind.u32 0, Value.int IntKind.u32 0, Value.int IntKind.u32 0, Value.int IntKind.u32 0, Value.int IntKind.u32 0, Value.int IntKind.u32 0, Value.int IntKind.u32 0, Value.int IntKind.u32 0, Value.int IntKind.u32 0, Value.int IntKind.u32 0, Value.int IntKind.u32 0] : Array Value).toList = woC (List.replicate 64 0) := by
  rw [woC_eq, List.map_replicate, show wI 0 = 0 from by rw [wI_eq]; rfl]; rfl

set_option maxRecDepth 100000 in
set_option maxHeartbeats 2000000 in
theorem sched_any (B : List UInt8) (w : World) (hB : B.length = 64) :
    Calls Tryd.prog 33 #[.agg (byC B).toArray] w fun e w' => e = .returned (.agg (woC (sched B 48)).toArray) ∧ Below w.heap.size w w' := by
  have HB := Lib.hid hB
  clear hB
  go_enter Tryd.func33, Tryd.ntmps33
  go_wp2
  go_loopw [4, 10] (fun _ i wr => ∃ k : Nat, k ≤ 16 ∧ i = .int .i64 k ∧ ByW wr w.heap.size B ∧ NilW wr (w.heap.size + 1) ∧ ArrW wr (w.heap.size + 1 + 1) (firstW B k) k ∧ Below w.heap.size w wr) (fun _ i _ => 16 - (intOf i).toNat)
  case atStart =>
    have hn : ∀ (W : World), Holds W (w.heap.size + 1) 58 _ → NilW W (w.heap.size + 1) := fun W h => by unfold NilW; rw [← nil64]; exact h
    refine ⟨0, by omega, rfl, ?_, ?_, ?_, ?_⟩
    · exact ((Holds.new _ _ _).alloc _).alloc _
    · unfold NilW
      rw [← nil64, show w.heap.size + 1 = (w.alloc (.cells (byC B).toArray 50)).heap.size by simp]
      exact (Holds.new _ _ _).alloc _
    · unfold ArrW
      rw [show firstW B 0 = [] from rfl, List.nil_append, Nat.sub_zero, ← nil64]
      have := Holds.new ((w.alloc (.cells (byC B).toArray 50)).alloc (.cells (#[Value.int IntKind.u32 0, Value.int IntKind.u32 0, Value.int IntKind.u32 0, Value.int IntKind.u32 0, Value.int IntKind.u32 0, Value.int IntKind.u32 0, Value.int IntKind.u32 0, Value.int IntKind.u32 0, Value.int IntKind.u32 0, Value.int IntKind.u32 0, Value.int IntKind.u32 0, Value.int IntKind.u32 0, Value.int IntKind.u32 0, Value.int IntKind.u32 0, Value.int IntKind.u32 0, Value.int IntKind.u32 0, Value.int IntKind.u32 0, Value.int IntKind.u32 0, Value.int IntKind.u32 0, Value.int IntKind.u32 0, Value.int IntKind.u32 0, Value.int IntKind.u32 0, Value.int IntKind.u32 0, Value.int IntKind.u32 0, Value.int IntKind.u32 0, Value.int IntKind.u32 0, Value.int IntKind.u32 0, Value.int IntKind.u32 0, Value.int IntKind.u32 0, Value.int IntKind.u32 0, Value.int IntKind.u32 0, Value.int IntKind.u32 0, Value.int IntKind.u32 0, Value.int IntKind.u32 0, Value.int IntKind.u32 0, Value.int IntKind.u32 0, Value.int IntKind.u32 0, Value.int IntKind.u32 0, Value.int IntKind.u32 0, Value.int IntKind.u32 0, Value.int IntKind.u32 0, Value.int IntKind.u32 0, Value.int IntKind.u32 0, Value.int IntKind.u32 0, Value.int IntKind.u32 0, Value.int IntKind.u32 0, Value.int IntKind.u32 0, Value.int IntKind.u32 0, Value.int IntKind.u32 0, Value.int IntKind.u32 0, Value.int IntKind.u32 0, Value.int IntKind.u32 0, Value.int IntKind.u32 0, Value.int IntKind.u32 0, Value.int IntKind.u32 0, Value.int IntKind.u32 0, Value.int IntKind.u32 0, Value.int IntKind.u32 0, Value.int IntKind.u32 0, Value.int IntKind.u32 0, Value.int IntKind.u32 0, Value.int IntKind.u32 0, Value.int IntKind.u32 0, Value.int IntKind.u32 0]) 58)) 58
      simp only [World.size_alloc] at this
      exact this _
    · exact (((Below.refl _ _).alloc (by simp) _).alloc (by simp) _).alloc (by simp; omega) _
  case round =>
    obtain ⟨k, hk, rfl, hby, hnil, harr, hb⟩ := hrel
    have Hby := Lib.hid hby
    have Hnil := Lib.hid hnil
    have Harr := Lib.hid harr
    have Hb := Lib.hid hb
    clear hby hnil harr hb
    by_cases hlt : k < 16
    · have c0 := Holds.cell Hby.out (byC_at (i := 4 * k) (by rw [HB.out]; omega))
      have c1 := Holds.cell Hby.out (byC_at (i := 4 * k + 1) (by rw [HB.out]; omega))
      have c2 := Holds.cell Hby.out (byC_at (i := 4 * k + 2) (by rw [HB.out]; omega))
      have c3 := Holds.cell Hby.out (byC_at (i := 4 * k + 3) (by rw [HB.out]; omega))
      have hcell := Holds.cell Harr.out (woC_at (i := k) (by simp [firstW_length]; omega))
      have hfr := Holds.frozen Harr.out k
      generalize hx0 : B.getD (4 * k) 0 = x0 at *
      generalize hx1 : B.getD (4 * k + 1) 0 = x1 at *
      generalize hx2 : B.getD (4 * k + 2) 0 = x2 at *
      generalize hx3 : B.getD (4 * k + 3) 0 = x3 at *
      have Hx : Hid (wordAt B k = BitVec.ofNat 32 (((x0.toNat * 256 + x1.toNat) * 256 + x2.toNat) * 256 + x3.toNat)) := Lib.hid (by subst hx0 hx1 hx2 hx3; rfl)
      clear hx0 hx1 hx2 hx3
      have y0 : x0.toNat < 256 := x0.toNat_lt
      have y1 : x1.toNat < 256 := x1.toNat_lt
      have y2 : x2.toNat < 256 := x2.toNat_lt
      have y3 : x3.toNat < 256 := x3.toNat_lt
      have Hw := Lib.hid (word_be x0.toNat x1.toNat x2.toNat x3.toNat y0 y1 y2 y3)
      go_wp2_with fail
      go_region
      go_wp2
      go_roundw
      case rel =>
        refine ⟨k + 1, by omega, by go_num, Holds.aside Hby.out (by show _ ≠ _; simp; omega) _, Holds.aside Hnil.out (by show _ ≠ _; simp) _, ?_, (Hb.out.setCell (by show _ ≤ w.heap.size + 1 + 1; omega) _).drew⟩
        show Holds _ _ _ _
        have := fun v => Holds.set Harr.out k (.int .u32 v)
        have e := woC_put (firstW B k) (wordAt B k) _ k 64 (firstW_length B k) (by omega) (Hx.out ▸ Hw.out.symm)
        rw [firstW_succ, ← e]
        exact this _
      case measure => simp [intOf]; omega
    · have hk16 : k = 16 := by omega
      have Harr0 : Hid (ArrW wr (w.heap.size + 1 + 1) (sched B 0) 16) := Lib.hid (by subst hk16; exact Harr.out)
      clear hk16 Harr
      go_wp2
      go_loopw [5, 6, 7, 8, 9] (fun i _ _ _ _ wr => ∃ k : Nat, 16 ≤ k ∧ k ≤ 64 ∧ i = .int .i64 k ∧ NilW wr (w.heap.size + 1) ∧ ArrW wr (w.heap.size + 1 + 1) (sched B (k - 16)) k ∧ Below w.heap.size w wr) (fun i _ _ _ _ _ => 64 - (intOf i).toNat)
      case atStart => exact ⟨16, by omega, by omega, rfl, Hnil.out, Harr0.out, Hb.out⟩
      case round =>
        rename_i wr _
        clear Hby Hnil Harr0 Hb
        obtain ⟨k, hk0, hk, rfl, hnil, harr, hb⟩ := hrel
        have Hnil := Lib.hid hnil
        have Harr := Lib.hid harr
        have Hb := Lib.hid hb
        clear hnil harr hb
        by_cases hlt : k < 64
        · have hlen : (sched B (k - 16)).length = k := by rw [sched_length]; omega
          have Hlen := Lib.hid hlen
          clear hlen
          have c0 := Holds.cell Harr.out (woC_at (i := k - 16) (by simp [Hlen.out]; omega))
          have c1 := Holds.cell Harr.out (woC_at (i := k - 15) (by simp [Hlen.out]; omega))
          have c2 := Holds.cell Harr.out (woC_at (i := k - 7) (by simp [Hlen.out]; omega))
          have c3 := Holds.cell Harr.out (woC_at (i := k - 2) (by simp [Hlen.out]; omega))
          have hcell := Holds.cell Harr.out (woC_at (i := k) (by simp [Hlen.out]; omega))
          have hfr := Holds.frozen Harr.out k
          have Hmix := Lib.hid (sched_mix B k hk0)
          rw [getD_left _ _ _ _ (by rw [Hlen.out]; omega)] at c0 c1 c2 c3
          generalize (sched B (k - 16)).getD (k - 16) 0 = x0 at *
          generalize (sched B (k - 16)).getD (k - 15) 0 = x1 at *
          generalize (sched B (k - 16)).getD (k - 7) 0 = x2 at *
          generalize (sched B (k - 16)).getD (k - 2) 0 = x3 at *
          have hlo := wI_lo
          have hhi := wI_hi
          have hxor := wI_xor
          have hadd := wI_add
          have hs3 := wI_shr3
          have hs10 := wI_shr10
          go_wp2_with fail
          go_quiet (fail)
          go_wp2_with (go_at_call 34; refine (rot_k _ _ _ (by omega) (by omega)).mono ?_; rintro e w' ⟨rfl, rfl⟩)
          go_region
          go_wp2
          go_roundw
          case rel =>
            refine ⟨k + 1, by omega, by omega, by go_num, Holds.aside (Hnil.out.drewN' _) (by show _ ≠ _; simp) _, ?_, (below_drewN Hb.out (nq + 1)).setCell (p := ⟨w.heap.size + 1 + 1, k, none⟩) (by show _ ≤ w.heap.size + 1 + 1; omega) _⟩
            show Holds _ _ _ _
            have := fun v => Holds.set (Harr.out.drewN' (nq + 1)) k (.int .u32 v)
            have e := woC_put (sched B (k - 16)) (mixW x0 x1 x2 x3) _ k 64 Hlen.out (by omega) rfl
            rw [Hmix.out, ← e]
            exact this _
          case measure => simp [intOf]; omega
        · have harr1 : Holds wr (w.heap.size + 1 + 1) 58 (woC (sched B 48)) := by
            have h : k = 64 := by omega
            have := Harr.out
            subst h
            unfold ArrW at this
            simpa using this
          have Harr1 := Lib.hid harr1
          have hsz : (woC (sched B 48)).length = 64 := by rw [woC_length, sched_length]
          have h1 : (woC (sched B 48)).toArray.all (·.oneCell') = true := by
            rw [Array.all_eq_true_iff_forall_mem, woC_eq]
            intro v hv
            simp only [List.mem_toArray, List.mem_map] at hv
            obtain ⟨x, _, rfl⟩ := hv
            rfl
          have hi : (Tryd.prog.info? 58).map (·.size) = some (woC (sched B 48)).toArray.size := by
            rw [List.size_toArray, hsz]; kernel_rfl
          have hold : (woC (List.replicate 64 (0 : BitVec 32))).toArray.size = (woC (sched B 48)).toArray.size := by
            rw [List.size_toArray, List.size_toArray, hsz, woC_length]; simp
          have H1 := Lib.hid h1
          have Hi := Lib.hid hi
          have Hold := Lib.hid hold
          clear harr1 hsz h1 hi hold Harr
          go_wp2_with (first | (refine wpList_load_row rfl 58 (.tmp 3) rfl (w.heap.size + 1 + 1) rfl 58 _ (0, 0) _ Harr1.out Tryd.underlying58 rfl Hi.out ?_) | (refine wpList_store_row rfl 58 (.tmp 2) (.tmp 88) rfl (w.heap.size + 1) _ rfl rfl 58 _ Hnil.out Hi.out Hold.out H1.out ?_))
          have Hend : Hid (Holds (wr.setRow (w.heap.size + 1) (woC (sched B 48)).toArray) (w.heap.size + 1) 58 (woC (sched B 48))) := Lib.hid (Hnil.out.row _)
          refine bodyPost_ret (v := .agg (woC (sched B 48)).toArray) (results_cell_row (ty := 58) rfl _ _ (w.heap.size + 1) 58 _ (0, 0) _ rfl Hend.out Tryd.underlying58 rfl Hi.out) rfl ⟨rfl, below_setRow Hb.out (by omega) _⟩
end Go.Proofs.YtemiphbblaikjaaDoor
