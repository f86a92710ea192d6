/-
  The contracts of hash.New, of the stream's methods pad and Sum.
-/
import Derived.Test.YtemiphbblaikjaaDoorWrite
import Derived.Test.YtemiphbblaikjaaDoorSmall
namespace Go.Proofs.YtemiphbblaikjaaDoor
open Go.RowKit

def zeroSt : St := ⟨0, 0, 0, 0, 0, 0, 0, 0⟩
def zC : List Value := List.replicate 8 (Value.int .u32 0) ++ (List.replicate 64 (Value.int .u8 0) ++ [Value.int .u64 0])
set_option maxRecDepth 100000 in
theorem zero52 (w : World) : (zeroValue 52).run Tryd.prog w = .ok (.agg zC.toArray) w := by kernel_rfl
set_option maxRecDepth 100000 in
set_option maxHeartbeats 1000000 in
theorem new_any (w : World) : Calls Tryd.prog 17 #[] w fun e w' => e = .returned (.pointer (some ⟨w.heap.size, 0, none⟩)) ∧ Strm w' w.heap.size [] ∧ w'.heap.size = w.heap.size + 1 ∧ Below w.heap.size w w' := by
  have hzv := zero52
  go_enter Tryd.func17, Tryd.ntmps17
  go_wp2
  go_ret
  refine ⟨rfl, ⟨zeroSt, List.replicate 64 0, ?_, by simp, fun h => absurd rfl h⟩, by simp, (Below.refl _ _).alloc (Nat.le_refl _) _⟩
  have e : woC zeroSt.toL ++ (byC (List.replicate 64 0) ++ [Value.int .u64 ((([] : List UInt8).length : Nat) : Int)]) = zC := by
    rw [byC_eq, woC_eq, List.map_replicate]
    have : zeroSt.toL = List.replicate 8 0 := rfl
    rw [this, List.map_replicate, show wI 0 = 0 from by rw [wI_eq]; rfl]
    rfl
  unfold StrM StAt
  rw [e]
  exact Holds.new w 52 zC.toArray
theorem eight_at (v : Int) (n : Nat) (w : World) (h : v = n) :
    Calls Tryd.prog 27 #[.int .u64 v] w fun e w' => e = .returned (.string (bs (numL n 8))) ∧ Below w.heap.size w w' := by
  subst h; exact eight_any n w

/-- The text of the padding. -/
def padS : ByteArray := { data := #[128, 0, 0, 0, 0, 0, 0, 0, 0, 0, 0, 0, 0, 0, 0, 0, 0, 0, 0, 0, 0, 0, 0, 0, 0, 0, 0, 0, 0, 0, 0, 0, 0, 0, 0, 0, 0, 0, 0, 0, 0, 0, 0, 0, 0, 0, 0, 0, 0, 0, 0, 0, 0, 0, 0, 0, 0, 0, 0, 0, 0, 0, 0, 0] }

theorem padS_bl (z : Nat) (hz : z ≤ 63) : bl (padS.extract 0 (1 + z)) = [128] ++ List.replicate z 0 := by
  have e : bl padS = 128 :: List.replicate 63 0 := by rw [bl_eq]; rfl
  rw [bl_extract, List.drop_zero, Nat.sub_zero, e, Nat.add_comm, List.take_succ_cons, List.take_replicate, Nat.min_eq_left hz]; rfl
theorem padS_size (z : Nat) (hz : z ≤ 63) : (padS.extract 0 (1 + z)).size = 1 + z := by
  rw [← bl_length, padS_bl z hz]; simp; omega
theorem padded_of (c : List UInt8) (N : Nat) (h : N = c.length) : (c ++ ([128] ++ List.replicate (zerosN N) 0)) ++ numL (8 * N) 8 = padded c := by
  subst h; unfold padded; simp

set_option maxRecDepth 100000 in
set_option maxHeartbeats 1000000 in
theorem pad_any (c : List UInt8) (a : Nat) (w : World) (hs : Strm w a c) (hk : KsAt w) (h0 : StartAt w) (ha : 2 ≤ a) (hlen : c.length < 1073741824) :
    Calls Tryd.prog 30 #[.pointer (some ⟨a, 0, none⟩)] w (Wrote w a (padded c)) := by
  have Hs := Lib.hid hs
  have Hk := Lib.hid hk
  have H0 := Lib.hid h0
  have hz : w.cell? ⟨a, 72, none⟩ = some (.int .u64 (c.length : Nat)) := by
    obtain ⟨s, B, hm, hB, _⟩ := hs
    exact hm.size hB
  have hlt := hs.lt
  clear hs hk h0
  obtain ⟨N, hN⟩ : ∃ N, N = c.length := ⟨_, rfl⟩
  rw [← hN] at hz hlen
  have HN := Lib.hid hN
  clear hN
  go_enter Tryd.func30, Tryd.ntmps30
  go_wp2_with fail
  refine (eight_at _ (8 * N) _ (by omega)).mono ?_
  rintro e w1 ⟨rfl, hb1⟩
  have hz1 : w1.cell? ⟨a, 72, none⟩ = some (.int .u64 (N : Nat)) := cell_later hb1 hz
  have Hs1 := Lib.hid (Hs.out.below hb1 hlt)
  have Hk1 := Lib.hid (Hk.out.below hb1 (by omega))
  have H01 := Lib.hid (H0.out.below hb1 (by omega))
  have Hb1 : Hid (Below a w w1) := Lib.hid (hb1.mono (by omega))
  clear hb1 Hs Hk H0 hz
  have hzn : zerosN N ≤ 63 := by unfold zerosN; omega
  have Hp := Lib.hid (padS_bl (zerosN N) hzn)
  have Hps := Lib.hid (padS_size (zerosN N) hzn)
  have Hpd := Lib.hid (padded_of c N HN.out)
  have hnum : (1 + (119 - (N : Int)) % 64).toNat = 1 + zerosN N := by unfold zerosN; omega
  have Hnum := Lib.hid hnum
  clear hnum
  go_wp2_with fail
  rw [Hnum.out]
  refine (write_any c (padS.extract 0 (1 + zerosN N)) a w1 Hs1.out Hk1.out H01.out ha (by rw [Hps.out, ← HN.out]; omega)).mono ?_
  rintro e w2 ⟨rfl, hst2, hb2⟩
  rw [Hp.out] at hst2
  have Hst2 := Lib.hid hst2
  have Hk2 := Lib.hid (Hk1.out.below hb2 ha)
  have H02 := Lib.hid (H01.out.below hb2 ha)
  have Hb2 := Lib.hid (Hb1.out.trans hb2)
  clear hst2 hb2
  go_wp2_with fail
  refine (write_any _ (bs (numL (8 * N) 8)) a w2 Hst2.out Hk2.out H02.out ha (by rw [bs_size, numL_length, List.length_append, List.length_append, List.length_replicate, ← HN.out]; simp; omega)).mono ?_
  rintro e w3 ⟨rfl, hst3, hb3⟩
  rw [bl_bs, Hpd.out] at hst3
  have Hst3 := Lib.hid hst3
  have Hb3 := Lib.hid (Hb2.out.trans hb3)
  clear hst3 hb3
  go_wp2
  go_end0
  exact ⟨rfl, Hst3.out, Hb3.out⟩

theorem sha_end {c : List UInt8} {s : St} {B : List UInt8} (h : padded c ≠ [] → Goes (padded c) s B) : dig s.toL = sha c := by
  have hne : padded c ≠ [] := by
    intro e
    have := padded_length c
    rw [e, List.length_nil] at this
    omega
  rw [(h hne).1]; unfold sha; rfl
theorem strm_copy {w : World} {b : Nat} {c : List UInt8} {s : St} {B : List UInt8} (h : Holds w b 52 (woC s.toL ++ (byC B ++ [Value.int .u64 (c.length : Nat)]))) (hB : B.length = 64) (hg : c ≠ [] → Goes c s B) : Strm w b c := ⟨s, B, h, hB, hg⟩
theorem one_strM (s : St) (B : List UInt8) (n : Nat) : (woC s.toL ++ (byC B ++ [Value.int .u64 (n : Int)])).toArray.all (·.oneCell') = true := by
  rw [Array.all_eq_true_iff_forall_mem]
  intro v hv
  simp only [List.mem_toArray, List.mem_append, List.mem_singleton] at hv
  rcases hv with h | h | h
  · rw [woC_eq, List.mem_map] at h
    obtain ⟨x, _, rfl⟩ := h; rfl
  · exact byC_one B v h
  · subst h; rfl
set_option maxRecDepth 100000 in
set_option maxHeartbeats 1000000 in
theorem ssum_any (c : List UInt8) (a : Nat) (w : World) (hs : Strm w a c) (hk : KsAt w) (h0 : StartAt w) (ha : 2 ≤ a) (hlen : c.length < 1073741824) :
    Calls Tryd.prog 19 #[.pointer (some ⟨a, 0, none⟩)] w fun e w' => e = .returned (.string (bs (sha c))) ∧ Below w.heap.size w w' := by
  have hlt := hs.lt
  have Hk := Lib.hid hk
  have H0 := Lib.hid h0
  obtain ⟨s, B, hm, hB, hg⟩ := hs
  have hl : (woC s.toL ++ (byC B ++ [Value.int .u64 (c.length : Nat)])).length = 73 := by simp [woC_length, byC_length, St.toL, hB]
  have Hi : Hid ((Tryd.prog.info? 52).map (·.size) = some (woC s.toL ++ (byC B ++ [Value.int .u64 (c.length : Nat)])).toArray.size) := Lib.hid (by rw [List.size_toArray, hl]; kernel_rfl)
  have Hh : Hid (73 = (woC s.toL ++ (byC B ++ [Value.int .u64 (c.length : Nat)])).toArray.size) := Lib.hid (by rw [List.size_toArray, hl])
  have H1 := Lib.hid (one_strM s B c.length)
  have Hm := Lib.hid hm
  have HB := Lib.hid hB
  have Hg := Lib.hid hg
  have hzv := zero52
  clear hk h0 hm hB hg hl
  go_enter Tryd.func19, Tryd.ntmps19
  go_wp2_with (first | (refine wpList_load_row rfl 52 (.tmp 7) rfl a rfl 52 _ (0, 0) _ Hm.out Tryd.underlying52 rfl Hi.out ?_) | (refine wpList_store_row rfl 52 (.tmp 3) (.tmp 8) rfl w.heap.size _ rfl rfl 52 _ (heap_alloc_new w _) Hi.out Hh.out H1.out ?_))
  generalize hW : (w.alloc (.cells zC.toArray 52)).setRow w.heap.size _ = W
  have hb0 : Below w.heap.size w W := by rw [← hW]; exact below_setRow ((Below.refl _ _).alloc (Nat.le_refl _) _) (Nat.le_refl _) _
  have Hst : Hid (Strm W w.heap.size c) := Lib.hid (by rw [← hW]; exact strm_copy (setRow_heap _ _ _ _ 52 _ (heap_alloc_new w _)) HB.out Hg.out)
  have Hk1 := Lib.hid (Hk.out.below hb0 (by omega))
  have H01 := Lib.hid (H0.out.below hb0 (by omega))
  have Hb0 := Lib.hid hb0
  clear hW hb0 Hk H0 Hi Hh H1 Hm HB Hg hzv
  have hb2 : 2 ≤ w.heap.size := by omega
  go_wp2_with fail
  refine (pad_any c w.heap.size W Hst.out Hk1.out H01.out hb2 hlen).mono ?_
  rintro e w2 ⟨rfl, hst2, hb2'⟩
  have Hb2 := Lib.hid (Hb0.out.trans hb2')
  obtain ⟨s2, B2, hm2, _, hg2⟩ := hst2
  have Hm2 := Lib.hid hm2
  have Hsha := Lib.hid (sha_end hg2)
  clear hm2 hg2 hb2' Hb0 Hst Hk1 H01
  go_wp2_with fail
  refine (digest_any s2 w.heap.size 52 _ w2 Hm2.out).mono ?_
  rintro e w3 ⟨rfl, hb3⟩
  rw [Hsha.out]
  have Hb3 := Lib.hid (Hb2.out.trans (hb3.mono Hb2.out.size))
  clear hb3
  go_wp2
  go_ret
  exact ⟨rfl, Hb3.out⟩
end Go.Proofs.YtemiphbblaikjaaDoor
