/-
  The law HashStreams walked.
-/
import Derived.Test.YtemiphbblaikjaaDoorRefS
import Derived.Test.YtemiphbblaikjaaDoorGreat
import Derived.Test.YtemiphbblaikjaaDoorLawK
namespace Go.Proofs.YtemiphbblaikjaaDoor
open Go.RowKit
theorem ssum_nil (w : World) : Calls Tryd.prog 19 #[.pointer none] w fun e w' => e = .returned (.string { data := #[] }) ∧ w' = w := by
  go_enter Tryd.func19, Tryd.ntmps19
  go_wp2
  go_ret
  exact ⟨rfl, rfl⟩
theorem refsum_bs (l : List UInt8) (w : World) (h : l.length ≤ 1000000) : Calls Tryd.prog 11 #[.string (bs l)] w fun e w' => e = .returned (.string (bs (sha l))) ∧ Below w.heap.size w w' := by
  have := refsum_any (bs l) w (by rw [bs_size]; exact h)
  rw [bl_bs] at this
  exact this
theorem hsum_bs (l : List UInt8) (w : World) (hk : KsAt w) (h0 : StartAt w) (ha : 2 ≤ w.heap.size) (h : l.length < 1073741824) : Calls Tryd.prog 10 #[.string (bs l)] w fun e w' => e = .returned (.string (bs (sha l))) ∧ Below w.heap.size w w' := by
  have := hsum_any (bs l) w hk h0 ha (by rw [bs_size]; exact h)
  rw [bl_bs] at this
  exact this
/-- What the loop over the pieces holds. -/
def PieceAt (w1 : World) (a : Nat) (c : List UInt8) (w : World) : Prop := Strm w a c ∧ Below a w1 w ∧ Laid w
theorem PieceAt.laid {w1 w w' : World} {a : Nat} {c : List UInt8} (h : PieceAt w1 a c w) (hb : Below w.heap.size w w') : PieceAt w1 a c w' :=
  ⟨h.1.below hb h.1.lt, h.2.1.trans (hb.mono (Nat.le_of_lt h.1.lt)), h.2.2.below hb⟩

theorem Laid.more {w w' : World} {a : Nat} (h : Laid w) (hb : Below a w w') (ha : 2 ≤ a) : Laid w' := ⟨h.1.below hb ha, h.2.1.below hb ha, by have := hb.size; have := h.2.2; omega⟩

set_option maxRecDepth 100000 in
set_option maxHeartbeats 2000000 in
theorem streams_any (ss : List ByteArray) (A : Option Addr) (n cap : Nat) (w : World) (hl : Laid w) (hs : SRow w A n ss) (hn : n ≤ maxLen) (hz : ∀ s ∈ ss, s.size ≤ maxLen) :
    Calls Tryd.prog 6 #[.slice A n cap] w (Laws w) := by
  have Hl := Lib.hid hl
  have Hs := Lib.hid hs
  have Hz := Lib.hid hz
  have Hn := Lib.hid hn
  clear hl hs hz hn
  cases hg : greatB ss with
  | true =>
    have Hg := Lib.hid hg
    clear hg
    go_enter Tryd.func6, Tryd.ntmps6
    go_wp2_with fail
    refine (awake_any w Hl.out.1 Hl.out.2.1 Hl.out.2.2).mono ?_
    rintro e w1 ⟨rfl, hb1⟩
    have Hs1 := Lib.hid (Hs.out.below hb1 (Nat.le_refl _))
    have Hb1 := Lib.hid hb1
    clear hb1
    go_wp2_with fail
    refine (great_any ss A n cap w1 Hs1.out Hn.out Hz.out).mono ?_
    rintro e w2 ⟨rfl, rfl⟩
    rw [Hg.out]
    go_wp2
    go_ret
    exact ⟨rfl, Hb1.out⟩
  | false =>
    have Hg := Lib.hid hg
    obtain ⟨g1, g2⟩ := greatB_small hg
    have hn' : n ≤ 100 := by rw [← Hs.out.1]; exact g1
    have Hcl : Hid ((cat ss).length ≤ 2000) := Lib.hid g2
    clear hg g1 g2
    go_enter Tryd.func6, Tryd.ntmps6
    go_wp2_with fail
    refine (awake_any w Hl.out.1 Hl.out.2.1 Hl.out.2.2).mono ?_
    rintro e w1 ⟨rfl, hb1⟩
    have Hl1 := Lib.hid (Hl.out.below hb1)
    have Hs1 := Lib.hid (Hs.out.below hb1 (Nat.le_refl _))
    have Hb1 := Lib.hid hb1
    clear hb1
    go_wp2_with fail
    refine (great_any ss A n cap w1 Hs1.out Hn.out Hz.out).mono ?_
    rintro e w2 ⟨rfl, rfl⟩
    rw [Hg.out]
    go_wp2_with fail
    refine (new_any w2).mono ?_
    rintro e w3 ⟨rfl, hst3, _, hb3⟩
    have Hp3 : Hid (PieceAt w2 w2.heap.size (cat (ss.take 0)) w3) := Lib.hid ⟨hst3, hb3, Hl1.out.below hb3⟩
    clear hst3 hb3
    go_wp2
    go_loopw [5, 14] (fun v i wr => ∃ k : Nat, k ≤ n ∧ i = .int .i64 k ∧ v = .string (bs (cat (ss.take k))) ∧ PieceAt w2 w2.heap.size (cat (ss.take k)) wr) (fun _ i _ => n - (intOf i).toNat)
    case atStart => exact ⟨0, by omega, rfl, by rw [bs_eq]; rfl, Hp3.out⟩
    case round =>
      clear Hp3
      obtain ⟨k, hk, rfl, rfl, hp⟩ := hrel
      have Hp := Lib.hid hp
      clear hp
      by_cases hlt : k < n
      · obtain ⟨b, off, rfl, hbl, hc⟩ := Hs1.out.2 k hlt
        have hcell := (Hp.out.2.1.cell (p := ⟨b, off + k, none⟩) hbl).trans hc
        have Hcat := Lib.hid (cat_take ss k (by rw [Hs1.out.1]; exact hlt))
        have hmore := cat_more ss k (by rw [Hs1.out.1]; exact hlt)
        have hcl := Hcl.out
        clear hc
        generalize ss.getD k ByteArray.empty = t at *
        generalize cat (ss.take k) = c at *
        have Hlc : Hid (c.length + t.size ≤ 2000) := Lib.hid (by omega)
        clear hmore hcl
        have ha2 : Hid (2 ≤ w2.heap.size) := Lib.hid Hl1.out.2.2
        go_wp2_with fail
        refine (write_any c t w2.heap.size wr Hp.out.1 Hp.out.2.2.1 Hp.out.2.2.2.1 ha2.out (by have := Hlc.out; omega)).mono ?_
        rintro e w4 ⟨rfl, hst4, hb4⟩
        have hcell4 := (hb4.cell (p := ⟨b, off + k, none⟩) hbl).trans hcell
        have Hp4 : Hid (PieceAt w2 w2.heap.size (c ++ bl t) w4) := Lib.hid ⟨hst4, Hp.out.2.1.trans hb4, Laid.more Hp.out.2.2 hb4 ha2.out⟩
        clear hst4 hb4 hcell Hp
        go_wp2_with fail
        refine (write_nil t w4).mono ?_
        rintro e w5 ⟨rfl, rfl⟩
        have hz1 : (bs c).size + t.size ≤ 2000 := by rw [bs_size]; exact Hlc.out
        have Hbs : Hid (bs c ++ t = bs (c ++ bl t)) := Lib.hid (by rw [← bs_append, bs_bl])
        have Hlen : Hid ((c ++ bl t).length ≤ 2000) := Lib.hid (by rw [List.length_append, bl_length]; exact Hlc.out)
        have hki : ((k : Int)).tmod 8 = ((k % 8 : Nat) : Int) := by rw [Int.tmod_eq_emod_of_nonneg (by omega)]; omega
        by_cases h7 : k % 8 = 7
        · have h7i : (k : Int) % 8 = 7 := by omega
          go_wp2_with fail
          rw [Hbs.out]
          generalize c ++ bl t = c2 at *
          refine (ssum_any c2 w2.heap.size w4 Hp4.out.1 Hp4.out.2.2.1 Hp4.out.2.2.2.1 ha2.out (by have := Hlen.out; omega)).mono ?_
          rintro e w6 ⟨rfl, hb6⟩
          have Hp6 := Lib.hid (Hp4.out.laid hb6)
          clear hb6
          go_wp2_with fail
          refine (refsum_bs c2 w6 (by have := Hlen.out; omega)).mono ?_
          rintro e w7 ⟨rfl, hb7⟩
          have Hp7 := Lib.hid (Hp6.out.laid hb7)
          clear hb7
          go_wp2
          go_roundw
          case rel => exact ⟨k + 1, by omega, by go_num, by rw [Hcat.out], by rw [Hcat.out]; exact Hp7.out⟩
          case measure => simp [intOf]; omega
        · have h7i : ¬ (k : Int) % 8 = 7 := by omega
          go_wp2
          rw [Hbs.out]
          go_roundw
          case rel => exact ⟨k + 1, by omega, by go_num, by rw [Hcat.out], by rw [Hcat.out]; exact Hp4.out⟩
          case measure => simp [intOf]; omega
      · have hkn : ss.take k = ss := List.take_of_length_le (by rw [Hs1.out.1]; omega)
        rw [hkn] at Hp ⊢
        clear hkn
        generalize cat ss = c at *
        have ha2 : Hid (2 ≤ w2.heap.size) := Lib.hid Hl1.out.2.2
        go_wp2_with fail
        refine (ssum_any c w2.heap.size wr Hp.out.1 Hp.out.2.2.1 Hp.out.2.2.2.1 ha2.out (by have := Hcl.out; omega)).mono ?_
        rintro e w6 ⟨rfl, hb6⟩
        have Hp6 := Lib.hid (Hp.out.laid hb6)
        clear hb6 Hp
        go_wp2_with fail
        refine (refsum_bs c w6 (by have := Hcl.out; omega)).mono ?_
        rintro e w7 ⟨rfl, hb7⟩
        have Hp7 := Lib.hid (Hp6.out.laid hb7)
        clear hb7 Hp6
        go_wp2_with fail
        refine (ssum_any c w2.heap.size w7 Hp7.out.1 Hp7.out.2.2.1 Hp7.out.2.2.2.1 ha2.out (by have := Hcl.out; omega)).mono ?_
        rintro e w8 ⟨rfl, hb8⟩
        have Hp8 := Lib.hid (Hp7.out.laid hb8)
        clear hb8 Hp7
        go_wp2_with fail
        refine (hsum_bs c w8 Hp8.out.2.2.1 Hp8.out.2.2.2.1 Hp8.out.2.2.2.2 (by have := Hcl.out; omega)).mono ?_
        rintro e w9 ⟨rfl, hb9⟩
        have Hp9 := Lib.hid (Hp8.out.laid hb9)
        clear hb9 Hp8
        go_wp2_with fail
        refine (ssum_nil w9).mono ?_
        rintro e w10 ⟨rfl, rfl⟩
        have Hb : Hid (Below w.heap.size w w10) := Lib.hid (Hb1.out.trans (Hp9.out.2.1.mono Hb1.out.size))
        go_wp2
        go_ret
        exact ⟨rfl, Hb.out⟩
end Go.Proofs.YtemiphbblaikjaaDoor
