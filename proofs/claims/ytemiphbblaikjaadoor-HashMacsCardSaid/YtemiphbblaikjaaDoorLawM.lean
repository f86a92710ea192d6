/-
  The law HashMacs walked.
-/
import Derived.Test.YtemiphbblaikjaaDoorRMac
import Derived.Test.YtemiphbblaikjaaDoorLawK
namespace Go.Proofs.YtemiphbblaikjaaDoor
open Go.RowKit

set_option maxRecDepth 100000 in
set_option maxHeartbeats 1000000 in
theorem macs_any (key s : ByteArray) (w : World) (hl : Laid w) : Calls Tryd.prog 5 #[.string key, .string s] w (Laws w) := by
  have Hl := Lib.hid hl
  clear hl
  by_cases h1 : 2000 < key.size
  · go_enter Tryd.func5, Tryd.ntmps5
    go_wp2_with fail
    refine (awake_any w Hl.out.1 Hl.out.2.1 Hl.out.2.2).mono ?_
    rintro e w1 ⟨rfl, hb1⟩
    go_wp2
    go_ret
    exact ⟨rfl, hb1⟩
  · by_cases h2 : 2000 < s.size
    · go_enter Tryd.func5, Tryd.ntmps5
      go_wp2_with fail
      refine (awake_any w Hl.out.1 Hl.out.2.1 Hl.out.2.2).mono ?_
      rintro e w1 ⟨rfl, hb1⟩
      go_wp2
      go_ret
      exact ⟨rfl, hb1⟩
    · go_enter Tryd.func5, Tryd.ntmps5
      go_wp2_with fail
      refine (awake_any w Hl.out.1 Hl.out.2.1 Hl.out.2.2).mono ?_
      rintro e w1 ⟨rfl, hb1⟩
      have Hl1 := Lib.hid (Hl.out.below hb1)
      have Hb1 := Lib.hid hb1
      clear hb1
      go_wp2_with fail
      refine (mac_any key s w1 Hl1.out.1 Hl1.out.2.1 Hl1.out.2.2 (by omega) (by omega)).mono ?_
      rintro e w2 ⟨rfl, hb2⟩
      have Hb2 := Lib.hid (Hb1.out.trans (hb2.mono Hb1.out.size))
      clear hb2
      go_wp2_with fail
      refine (rmac_any key s w2 (by omega) (by omega)).mono ?_
      rintro e w3 ⟨rfl, hb3⟩
      have Hb3 := Lib.hid (Hb2.out.trans (hb3.mono Hb2.out.size))
      clear hb3
      go_wp2
      go_ret
      exact ⟨rfl, Hb3.out⟩
end Go.Proofs.YtemiphbblaikjaaDoor
