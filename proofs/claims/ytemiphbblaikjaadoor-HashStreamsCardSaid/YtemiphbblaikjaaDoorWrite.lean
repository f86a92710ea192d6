/-
  The contract of the stream's method Write.
-/
import Derived.Test.YtemiphbblaikjaaDoorStream
namespace Go.Proofs.YtemiphbblaikjaaDoor
open Go.RowKit

def strLen : Value → Nat | .string s => s.size | _ => 0
/-- What Write leaves. -/
def Wrote (w : World) (a : Nat) (c : List UInt8) (e : Ending) (w' : World) : Prop := e = .returned (.tuple #[]) ∧ Strm w' a c ∧ Below a w w'
theorem write_nil (t : ByteArray) (w : World) : Calls Tryd.prog 18 #[.pointer none, .string t] w fun e w' => e = .returned (.tuple #[]) ∧ w = w' := by
  go_enter Tryd.func18, Tryd.ntmps18
  go_wp2
  exact bodyPost_ret (v := .tuple #[]) (by simp [results, go_sem]) rfl ⟨rfl, rfl⟩

/-- The head of the loop: what is written, what is left. -/
def WrAt (w0 : World) (a : Nat) (all : List UInt8) (r : ByteArray) (w : World) : Prop := ∃ c s B, c ++ bl r = all ∧ StrM w a s B c.length ∧ Goes c s B ∧ Below a w0 w

/-- Where so many bytes of r go. -/
theorem wr_cells {s : St} {B X : List UInt8} {N m : Nat} (hB : B.length = 64) (hX : m + X.length ≤ 64) : splice (woC s.toL ++ (byC B ++ [Value.int .u64 (N : Int)])) (8 + m) (byC X) = woC s.toL ++ (byC (splice B m X) ++ [Value.int .u64 (N : Int)]) := by
  rw [splice_mid (woC s.toL) (byC B) _ (byC X) m 8 (by simp [woC_length, St.toL]) (by rw [byC_length, byC_length, hB]; exact hX), splice_byC]
theorem WrAt.copied {w0 w : World} {a N n : Nat} {s : St} {B c : List UInt8} {r : ByteArray} (hm : StrM w a s B N) (hg : Goes c s B) (hn : N % 64 + n ≤ 64) (hr : n ≤ r.size) (hb : Below a w0 w) :
    ∀ W, W = w.setRow a (splice (woC s.toL ++ (byC B ++ [Value.int .u64 (N : Int)])) (8 + N % 64) (byC ((bl r).take n))).toArray → StrM W a s (splice B (N % 64) ((bl r).take n)) N ∧ Below a w0 W := by
  rintro W rfl
  have hl : ((bl r).take n).length = n := by rw [List.length_take, bl_length]; omega
  rw [wr_cells hg.2.1 (by rw [hl]; exact hn)]
  exact ⟨Holds.row hm _, below_setRow hb (Nat.le_refl _) _⟩
theorem rest_data (r : ByteArray) (n : Nat) : bl (r.extract n r.size) = (bl r).drop n := by
  rw [bl_extract, List.take_of_length_le (by rw [List.length_drop, bl_length]; omega)]

set_option maxRecDepth 100000 in
set_option maxHeartbeats 2000000 in
theorem write_any (c : List UInt8) (t : ByteArray) (a : Nat) (w : World) (hs : Strm w a c) (hk : KsAt w) (h0 : StartAt w) (ha : 2 ≤ a) (hlen : c.length + t.size < 1099511627776) :
    Calls Tryd.prog 18 #[.pointer (some ⟨a, 0, none⟩), .string t] w (Wrote w a (c ++ bl t)) := by
  obtain ⟨s, B, hm, hB, hg⟩ := hs
  have Hm := Lib.hid hm
  have HB := Lib.hid hB
  have Hg := Lib.hid hg
  have Hk := Lib.hid hk
  have hz := hm.size hB
  clear hm hB hg hk
  by_cases ht : t.size = 0
  · have hbt : bl t = [] := List.eq_nil_of_length_eq_zero (by rw [bl_length]; exact ht)
    have e1 : t.toList.isEmpty = true := by rw [bl_toList, hbt]; rfl
    have e2 : t.toList = [] := by rw [bl_toList, hbt]
    have Hend : Hid (Wrote w a (c ++ bl t) (.returned (.tuple #[])) w) := Lib.hid ⟨rfl, by rw [hbt, List.append_nil]; exact ⟨s, B, Hm.out, HB.out, Hg.out⟩, Below.refl _ _⟩
    clear ht hbt
    go_enter Tryd.func18, Tryd.ntmps18
    go_wp2
    exact bodyPost_ret (v := .tuple #[]) (by simp [results, go_sem]) rfl Hend.out
  · have e1 : t.toList.isEmpty = false := by
      rw [bl_toList, List.isEmpty_eq_false_iff]
      intro h
      have := bl_length t
      rw [h] at this
      exact ht (by simpa using this.symm)
    obtain ⟨st0, fr0, h0⟩ := h0
    have H0 := Lib.hid h0
    clear h0
    generalize hN : c.length = N at *
    have HN := Lib.hid hN
    clear hN
    have Hi8 : Hid ((Tryd.prog.info? 49).map (·.size) = some (woC start.toL).toArray.size) := Lib.hid (by rw [List.size_toArray, woC_length]; kernel_rfl)
    have Hi8' : Hid ((Tryd.prog.info? 49).map (·.size) = some (woC start.toL).length) := Lib.hid (by rw [woC_length]; kernel_rfl)
    have H1 : Hid (∀ v ∈ woC start.toL, v.oneCell' = true) := Lib.hid (fun v hv => by
      rw [woC_eq, List.mem_map] at hv
      obtain ⟨x, _, rfl⟩ := hv
      rfl)
    have Hfit : Hid (0 + (woC start.toL).length ≤ (woC s.toL ++ (byC B ++ [Value.int .u64 (N : Int)])).length) := Lib.hid (by simp [woC_length, St.toL])
    have Hst0 : Hid (N = 0 → WrAt w a (c ++ bl t) t (w.setRow a (splice (woC s.toL ++ (byC B ++ [Value.int .u64 (N : Int)])) 0 (woC start.toL)).toArray)) := Lib.hid (by
      intro h
      have hcn : c = [] := List.eq_nil_of_length_eq_zero (by rw [HN.out]; exact h)
      have e : splice (woC s.toL ++ (byC B ++ [Value.int .u64 (N : Int)])) 0 (woC start.toL) = woC start.toL ++ (byC B ++ [Value.int .u64 (N : Int)]) := by
        unfold splice
        rw [List.take_zero, List.nil_append, Nat.zero_add, List.drop_left' (by simp [woC_length, St.toL])]
      rw [e]
      refine ⟨[], start, B, by rw [hcn], ?_, Goes.nil HB.out, below_setRow (Below.refl _ _) (Nat.le_refl _) _⟩
      have := Holds.row Hm.out (woC start.toL ++ (byC B ++ [Value.int .u64 (N : Int)]))
      subst h
      exact this)
    have Hst1 : Hid (N ≠ 0 → WrAt w a (c ++ bl t) t w) := Lib.hid (fun h => by
      refine ⟨c, s, B, rfl, by rw [HN.out]; exact Hm.out, Hg.out (fun e => h ?_), Below.refl _ _⟩
      rw [← HN.out, e]; rfl)
    have Hall : Hid ((c ++ bl t).length < 1099511627776) := Lib.hid (by rw [List.length_append, bl_length, HN.out]; exact hlen)
    generalize hall : c ++ bl t = all at *
    clear hall
    have Hgoal : Hid (∃ wX, WrAt w a all t wX) := Lib.hid (by
      by_cases h : N = 0
      · exact ⟨_, Hst0.out h⟩
      · exact ⟨_, Hst1.out h⟩)
    by_cases hc : N = 0
    case' pos =>
      have hz1 : ((N : Int) == 0) = true := by simp; omega
      have Hst := Lib.hid (Hst0.out hc)
      clear Hst0 Hst1 hc Hg
      go_enter Tryd.func18, Tryd.ntmps18
      go_wp2_with (first | (refine wpList_load_row rfl 49 (Operand.global 0) rfl 0 rfl st0 _ fr0 _ H0.out Tryd.underlying49 rfl Hi8.out ?_) | (refine wpList_store_part rfl 49 (.tmp 19) (.tmp 17) rfl rfl a 0 (woC start.toL) rfl rfl 52 _ Hm.out Hi8'.out Hfit.out H1.out ?_))
    case' neg =>
      have hz1 : ((N : Int) == 0) = false := by simp; omega
      have Hst := Lib.hid (Hst1.out hc)
      clear Hst0 Hst1 hc Hg
      go_enter Tryd.func18, Tryd.ntmps18
      go_wp2
    all_goals
      clear Hi8 Hi8' H1 Hfit Hm HB hz hz1 H0 HN
      go_loopw [1, 4] (fun tv _ wr => ∃ r, tv = .string r ∧ WrAt w a all r wr) (fun tv _ _ => strLen tv)
      case atStart => exact ⟨t, rfl, Hst.out⟩
      case round =>
        clear Hst Hgoal e1 ht
        obtain ⟨r, rfl, c', s', B', hall, hm, hg, hb⟩ := hrel
        have Ha := Lib.hid hall
        have Hm := Lib.hid hm
        have Hg := Lib.hid hg
        have Hb := Lib.hid hb
        clear hall hm hg hb
        by_cases hr : r.size = 0
        · have hbr : bl r = [] := List.eq_nil_of_length_eq_zero (by rw [bl_length]; exact hr)
          have e1 : r.toList.isEmpty = true := by rw [bl_toList, hbr]; rfl
          have e2 : r.toList = [] := by rw [bl_toList, hbr]
          have Hend : Hid (Wrote w a all (.returned (.tuple #[])) wr) := Lib.hid ⟨rfl, by rw [← Ha.out, hbr, List.append_nil]; exact Hg.out.strm Hm.out, Hb.out⟩
          clear hbr hr
          go_wp2
          go_end0
          exact Hend.out
        · have e1 : r.toList.isEmpty = false := by
            rw [bl_toList, List.isEmpty_eq_false_iff]
            intro h
            have := bl_length r
            rw [h] at this
            exact hr (by simpa using this.symm)
          have hlen' : c'.length + r.size < 1099511627776 := by
            have := Hall.out
            rw [← Ha.out, List.length_append, bl_length] at this
            exact this
          have hz := Hm.out.size Hg.out.2.1
          obtain ⟨M, hM⟩ : ∃ M, M = c'.length := ⟨_, rfl⟩
          rw [← hM] at hz hlen'
          have Hm' : Hid (StrM wr a s' B' M) := Lib.hid (by rw [hM]; exact Hm.out)
          have HM := Lib.hid hM.symm
          clear hM Hm
          obtain ⟨n, hn⟩ : ∃ n, n = Nat.min r.size (64 - M % 64) := ⟨_, rfl⟩
          have hn1 : 0 < n := by rw [hn]; show 0 < min _ _; omega
          have hn2 : n ≤ r.size := by rw [hn]; exact Nat.min_le_left _ _
          have hn3 : M % 64 + n ≤ 64 := by have : n ≤ 64 - M % 64 := by rw [hn]; exact Nat.min_le_right _ _
                                           omega
          have Hn := Lib.hid hn
          clear hn
          obtain ⟨m, hm⟩ : ∃ m, m = M % 64 := ⟨_, rfl⟩
          rw [← hm] at hn3 Hn
          have hm64 : ((M : Int)).tmod 64 = (m : Int) := by rw [hm, Int.tmod_eq_emod_of_nonneg (by omega)]; omega
          have hm4 : (64 = m) = False := by simp; omega
          have hm1 : m < 64 := by omega
          have hm2 : (m : Int) ≤ 64 := by omega
          have hm3 : (0 : Int) ≤ (m : Int) := by omega
          have Hmm := Lib.hid hm
          clear hm
          go_wp2_with fail
          refine wp_region_still_tail 10 (by kernel_rfl) (by kernel_rfl) ?_
          simp only [List.take_succ_cons, List.take_zero, List.drop_succ_cons, List.drop_zero]
          repeat still_step
          refine wpStill_nil ?_
          change wpList _ _ _ _ _ wr.drew
          go_wp2
          have Hcop := Lib.hid (WrAt.copied (w := wr.drew) (r := r) Hm'.out Hg.out (by rw [← Hmm.out]; exact hn3) hn2 Hb.out.drew)
          rw [← Hmm.out] at Hcop
          rw [run_copy_text wr.drew 37 9 3 5 a (8 + m) (64 - m) (64 - m) n r _ 52 Tryd.underlying37 (by kernel_rfl) (show Holds wr.drew a 52 _ from Hm'.out) Hn.out (by simp [woC_length, byC_length, St.toL, Hg.out.2.1]; omega)]
          generalize hW : wr.drew.setRow a _ = W at Hcop ⊢
          have Hcop2 := Lib.hid (Hcop.out W rfl)
          clear hW Hcop Hm' Hb hz
          have hB2 : Hid ((splice B' m ((bl r).take n)).length = 64) := Lib.hid (by rw [length_splice _ _ _ (by rw [List.length_take, bl_length, Hg.out.2.1]; omega)]; exact Hg.out.2.1)
          have hz := Hcop2.out.1.size hB2.out
          have hfz : W.frozen? ⟨a, 72, none⟩ = false := Holds.frozen Hcop2.out.1 72
          have Hset := Lib.hid (Hcop2.out.1.setSize hB2.out (M + n) ((M : Int) + n) (by omega))
          have Hb2 := Lib.hid (Hcop2.out.2.setCell (p := ⟨a, 72, none⟩) (Nat.le_refl _) (Value.int .u64 ((M : Int) + n)))
          clear Hcop2
          have hXl : Hid (((bl r).take n).length = n) := Lib.hid (by rw [List.length_take, bl_length]; omega)
          have Hall2 : Hid ((c' ++ (bl r).take n) ++ bl (r.extract n r.size) = all) := Lib.hid (by rw [rest_data, List.append_assoc, List.take_append_drop]; exact Ha.out)
          have Hl2 : Hid ((c' ++ (bl r).take n).length = M + n) := Lib.hid (by rw [List.length_append, hXl.out, HM.out])
          have hn4 : (n : Int) ≤ r.size := by omega
          have hsz : r.size - n < r.size := by omega
          by_cases h0 : (M + n) % 64 = 0
          · have h0' : (((M : Int) + n) % 64 == 0) = true := by simp; omega
            have Hfull : Hid (Goes (c' ++ (bl r).take n) (compr s' (splice B' m ((bl r).take n))) (splice B' m ((bl r).take n))) := Lib.hid (by
              have := Goes.full (X := (bl r).take n) Hg.out (by rw [HM.out, hXl.out]; have := Hmm.out; omega)
              rw [HM.out, ← Hmm.out] at this
              exact this)
            have Hks : Hid (KsAt (W.setCell ⟨a, 72, none⟩ (.int .u64 ((M : Int) + n)))) := Lib.hid (Hk.out.below Hb2.out ha)
            have Hbl := Lib.hid (Hset.out.block)
            have Hi64 : Hid ((Tryd.prog.info? 50).map (·.size) = some (byC (splice B' m ((bl r).take n))).length) := Lib.hid (by rw [byC_length, hB2.out]; kernel_rfl)
            go_wp2_with fail
            generalize W.setCell ⟨a, 72, none⟩ (.int .u64 ((M : Int) + n)) = W2 at *
            refine wp_region_still_tail 7 (by kernel_rfl) (by kernel_rfl) ?_
            simp only [List.take_succ_cons, List.take_zero, List.drop_succ_cons, List.drop_zero]
            iterate 6 still_step
            refine still_load_part rfl 50 (.tmp 56) rfl a 8 rfl (byC (splice B' m ((bl r).take n))) _ Hbl.out Tryd.underlying50 rfl Hi64.out ?_
            refine wpStill_nil ?_
            change wpList _ _ _ _ _ W2.drew
            have HsetD : Hid (StAt W2.drew a 52 s'.toL (byC (splice B' m ((bl r).take n)) ++ [.int .u64 ((M + n : Nat) : Int)])) := Lib.hid Hset.out
            have HksD : Hid (KsAt W2.drew) := Lib.hid Hks.out
            have Hb3 : Hid (Below a w W2.drew) := Lib.hid Hb2.out.drew
            generalize W2.drew = W3 at *
            go_wp2_with (go_at_call 29; refine (compress_any s' _ a 52 _ _ hB2.out HsetD.out HksD.out ha).mono ?_; rintro e w3 ⟨rfl, hst3, hb3⟩)
            go_roundw
            case rel => exact ⟨_, rfl, _, _, _, Hall2.out, by rw [Hl2.out]; exact hst3, Hfull.out, Hb3.out.trans hb3⟩
            case measure => show (r.extract n r.size).size < r.size; simp; omega
          · have h0' : (((M : Int) + n) % 64 == 0) = false := by simp; omega
            have Hmore : Hid (Goes (c' ++ (bl r).take n) s' (splice B' m ((bl r).take n))) := Lib.hid (by
              have := Goes.more (X := (bl r).take n) Hg.out (by rw [HM.out, hXl.out]; have := Hmm.out; omega)
              rw [HM.out, ← Hmm.out] at this
              exact this)
            go_wp2
            go_roundw
            case rel => exact ⟨_, rfl, _, _, _, Hall2.out, by rw [Hl2.out]; exact Hset.out, Hmore.out, Hb2.out⟩
            case measure => show (r.extract n r.size).size < r.size; simp; omega
end Go.Proofs.YtemiphbblaikjaaDoor
