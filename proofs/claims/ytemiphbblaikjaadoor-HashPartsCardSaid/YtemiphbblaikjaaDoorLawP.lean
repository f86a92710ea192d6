/-
  The law HashParts walked.
-/
import Derived.Test.YtemiphbblaikjaaDoorRJoin
import Derived.Test.YtemiphbblaikjaaDoorRefS
import Derived.Test.YtemiphbblaikjaaDoorGreat
import Derived.Test.YtemiphbblaikjaaDoorLawK
namespace Go.Proofs.YtemiphbblaikjaaDoor
open Go.RowKit
theorem partsL_length (ss : List ByteArray) : (partsL ss).length = 8 * ss.length + (cat ss).length := by
  unfold partsL cat
  induction ss with
  | nil => rfl
  | cons s ss ih => simp only [List.flatMap_cons, List.length_append, numL_length, bl_length, List.length_cons, ih]; omega

set_option maxRecDepth 100000 in
set_option maxHeartbeats 1000000 in
theorem partsLaw_any (ss : List ByteArray) (A : Option Addr) (n cap : Nat) (w : World) (hl : Laid w) (hs : SRow w A n ss) (hn : n ≤ maxLen) (hz : ∀ s ∈ ss, s.size ≤ maxLen) :
    Calls Tryd.prog 4 #[.slice A n cap] w (Laws w) := by
  have Hl := Lib.hid hl
  have Hs := Lib.hid hs
  have Hz := Lib.hid hz
  have Hn := Lib.hid hn
  clear hl hs hz hn
  cases hg : greatB ss with
  | true =>
    have Hg := Lib.hid hg
    clear hg
    go_enter Tryd.func4, Tryd.ntmps4
    go_wp2_with fail
    refine (awake_any w Hl.out.1 Hl.out.2.1 Hl.out.2.2).mono ?_
    rintro e w1 ⟨rfl, hb1⟩
    have Hs1 := Lib.hid (Hs.out.below hb1 (Nat.le_refl _))
    have Hb1 := Lib.hid hb1
    clear hb1
    go_wp2_with fail
    refine (great_any ss A n cap w1 Hs1.out Hn.out Hz.out).mono ?_
    rintro e w2 ⟨rfl, rfl⟩
    rw [Hg.out]
    go_wp2
    go_ret
    exact ⟨rfl, Hb1.out⟩
  | false =>
    have Hg := Lib.hid hg
    obtain ⟨g1, g2⟩ := greatB_small hg
    have hn' : n ≤ 100 := by rw [← Hs.out.1]; exact g1
    have hp : (partsL ss).length ≤ 2800 := by rw [partsL_length]; omega
    have Hbs : Hid ((bs (partsL ss)).size ≤ 2800) := Lib.hid (by rw [bs_size]; exact hp)
    have Hp := Lib.hid hp
    clear hg g1 g2 hp
    go_enter Tryd.func4, Tryd.ntmps4
    go_wp2_with fail
    refine (awake_any w Hl.out.1 Hl.out.2.1 Hl.out.2.2).mono ?_
    rintro e w1 ⟨rfl, hb1⟩
    have Hl1 := Lib.hid (Hl.out.below hb1)
    have Hs1 := Lib.hid (Hs.out.below hb1 (Nat.le_refl _))
    have Hb1 := Lib.hid hb1
    clear hb1
    go_wp2_with fail
    refine (great_any ss A n cap w1 Hs1.out Hn.out Hz.out).mono ?_
    rintro e w2 ⟨rfl, rfl⟩
    rw [Hg.out]
    go_wp2_with fail
    refine (parts_any ss A n cap w2 Hs1.out Hl1.out.1 Hl1.out.2.1 Hl1.out.2.2 (by have := Hp.out; omega) (by omega)).mono ?_
    rintro e w3 ⟨rfl, hb3⟩
    have Hs3 := Lib.hid (Hs1.out.below hb3 (Nat.le_refl _))
    have Hb3 := Lib.hid (Hb1.out.trans (hb3.mono Hb1.out.size))
    clear hb3
    go_wp2_with fail
    refine (rjoined_any ss A n cap w3 Hs3.out (by have := Hp.out; omega) (by omega)).mono ?_
    rintro e w4 ⟨rfl, hb4⟩
    have Hb4 := Lib.hid (Hb3.out.trans (hb4.mono Hb3.out.size))
    clear hb4
    go_wp2_with fail
    refine (refsum_any (bs (partsL ss)) w4 (by have := Hbs.out; omega)).mono ?_
    rintro e w5 ⟨rfl, hb5⟩
    rw [bl_bs]
    have Hb5 := Lib.hid (Hb4.out.trans (hb5.mono Hb4.out.size))
    clear hb5
    go_wp2
    go_ret
    exact ⟨rfl, Hb5.out⟩
end Go.Proofs.YtemiphbblaikjaaDoor
