/-
  The laws' awake; NameRights, NameCounts and NamePlains walked.
-/
import Derived.Test.YtidacifgnaohjaaBck
import Derived.Test.YtidacifgnaohjaaRefE
namespace Go.Proofs.Ytidacifgnaohjaa
open Go.RowKit

/-- What a law comes to: true, and what was there stands. -/
def Laws (w : World) (e : Ending) (w' : World) : Prop := e = .returned (.bool true) ∧ Below w.heap.size w w'

theorem awake_root : rightL (bl { data := #[114, 111, 111, 116] }) = true := by rw [bl_eq]; decide +kernel
theorem awake_hyphen : rightL (bl { data := #[45, 97] }) = false := by rw [bl_eq]; decide +kernel
theorem awake_plain : plainL (bl { data := #[10, 195, 169] }) = [92, 48, 97, 195, 169] := by rw [bl_eq]; decide +kernel
theorem awake_count : countL (bl { data := #[195, 169] }) = 1 := by rw [bl_eq]; decide +kernel

set_option maxRecDepth 100000 in
set_option maxHeartbeats 1000000 in
theorem awake_any (w : World) : Calls Try.prog 9 #[] w fun e w' => e = .returned (.bool true) ∧ Below w.heap.size w w' := by
  have H1 : Hid (∀ W, Calls Try.prog 10 #[.string { data := #[114, 111, 111, 116] }] W fun e w' => e = .returned (.bool true) ∧ Below W.heap.size W w') := Lib.hid (fun W => by
    have := right_any { data := #[114, 111, 111, 116] } W (by decide); rw [awake_root] at this; exact this)
  have H2 : Hid (∀ W, Calls Try.prog 10 #[.string { data := #[45, 97] }] W fun e w' => e = .returned (.bool false) ∧ Below W.heap.size W w') := Lib.hid (fun W => by
    have := right_any { data := #[45, 97] } W (by decide); rw [awake_hyphen] at this; exact this)
  have H3 : Hid (∀ W, Calls Try.prog 14 #[.string { data := #[10, 195, 169] }] W fun e w' => e = .returned (.string (bs [92, 48, 97, 195, 169])) ∧ Below W.heap.size W w') := Lib.hid (fun W => by
    have := plain_any { data := #[10, 195, 169] } W (by decide); rw [awake_plain] at this; exact this)
  have H4 : Hid (∀ W, Calls Try.prog 12 #[.string { data := #[195, 169] }] W fun e w' => e = .returned (.int .i64 1) ∧ Below W.heap.size W w') := Lib.hid (fun W => by
    have := count_any { data := #[195, 169] } W (by decide); rw [awake_count] at this; exact this)
  have he : (bs [92, 48, 97, 195, 169]).toList = [92, 48, 97, 195, 169] := bs_toList _
  go_enter Try.func9, Try.ntmps9
  go_wp2_with fail
  refine (H1.out _).mono ?_
  rintro e w1 ⟨rfl, hb1⟩
  have Hb1 := Lib.hid hb1
  clear hb1
  go_wp2_with fail
  refine (H2.out _).mono ?_
  rintro e w2 ⟨rfl, hb2⟩
  have Hb2 := Lib.hid (Hb1.out.trans (hb2.mono Hb1.out.size))
  clear hb2
  go_wp2_with fail
  refine (H3.out _).mono ?_
  rintro e w3 ⟨rfl, hb3⟩
  have Hb3 := Lib.hid (Hb2.out.trans (hb3.mono Hb2.out.size))
  clear hb3
  go_wp2_with fail
  refine (H4.out _).mono ?_
  rintro e w4 ⟨rfl, hb4⟩
  have Hb4 := Lib.hid (Hb3.out.trans (hb4.mono Hb3.out.size))
  clear hb4
  go_wp2
  go_ret
  exact ⟨rfl, Hb4.out⟩

set_option maxRecDepth 100000 in
set_option maxHeartbeats 1000000 in
theorem rights_any (s : ByteArray) (w : World) : Calls Try.prog 3 #[.string s] w (Laws w) := by
  by_cases hs : 10000 < s.size
  · have hs' : (10000 : Int) < (s.size : Int) := by omega
    go_enter Try.func3, Try.ntmps3
    go_wp2_with (go_at_call 9; refine (awake_any w).mono ?_; rintro e w1 ⟨rfl, hb1⟩; replace hb1 := Lib.hid hb1)
    go_ret
    exact ⟨rfl, hb1.out⟩
  · have hs' : ¬ (10000 : Int) < (s.size : Int) := by omega
    have Hr := Lib.hid (fun W => right_any s W (by omega))
    have Hq := Lib.hid (fun W => refright_any s W (by omega))
    generalize rightL (bl s) = b at *
    go_enter Try.func3, Try.ntmps3
    go_wp2_with (first | (go_at_call 9; refine (awake_any w).mono ?_; rintro e w1 ⟨rfl, hb1⟩; replace hb1 := Lib.hid hb1) | (go_at_call 10; refine (Hr.out _).mono ?_; rintro e w2 ⟨rfl, hb2⟩; replace hb2 := Lib.hid hb2) | (go_at_call 11; refine (Hq.out _).mono ?_; rintro e w3 ⟨rfl, rfl⟩))
    go_ret
    exact ⟨by cases b <;> rfl, hb1.out.trans (hb2.out.mono hb1.out.size)⟩

set_option maxRecDepth 100000 in
set_option maxHeartbeats 1000000 in
theorem counts_any (s : ByteArray) (w : World) : Calls Try.prog 4 #[.string s] w (Laws w) := by
  by_cases hs : 10000 < s.size
  · have hs' : (10000 : Int) < (s.size : Int) := by omega
    go_enter Try.func4, Try.ntmps4
    go_wp2_with (go_at_call 9; refine (awake_any w).mono ?_; rintro e w1 ⟨rfl, hb1⟩; replace hb1 := Lib.hid hb1)
    go_ret
    exact ⟨rfl, hb1.out⟩
  · have hs' : ¬ (10000 : Int) < (s.size : Int) := by omega
    have Hr := Lib.hid (fun W => count_any s W (by omega))
    have Hq := Lib.hid (fun W => refcount_any s W (by omega))
    generalize countL (bl s) = b at *
    go_enter Try.func4, Try.ntmps4
    go_wp2_with (first | (go_at_call 9; refine (awake_any w).mono ?_; rintro e w1 ⟨rfl, hb1⟩; replace hb1 := Lib.hid hb1) | (go_at_call 12; refine (Hr.out _).mono ?_; rintro e w2 ⟨rfl, hb2⟩; replace hb2 := Lib.hid hb2) | (go_at_call 13; refine (Hq.out _).mono ?_; rintro e w3 ⟨rfl, rfl⟩))
    go_ret
    exact ⟨rfl, hb1.out.trans (hb2.out.mono hb1.out.size)⟩

set_option maxRecDepth 100000 in
set_option maxHeartbeats 1000000 in
theorem plains_any (s : ByteArray) (w : World) : Calls Try.prog 5 #[.string s] w (Laws w) := by
  by_cases hs : 10000 < s.size
  · have hs' : (10000 : Int) < (s.size : Int) := by omega
    go_enter Try.func5, Try.ntmps5
    go_wp2_with (go_at_call 9; refine (awake_any w).mono ?_; rintro e w1 ⟨rfl, hb1⟩; replace hb1 := Lib.hid hb1)
    go_ret
    exact ⟨rfl, hb1.out⟩
  · have hs' : ¬ (10000 : Int) < (s.size : Int) := by omega
    have Hr := Lib.hid (fun W => plain_any s W (by omega))
    have Hq := Lib.hid (fun W => refplain_any s W (by omega))
    generalize plainL (bl s) = b at *
    go_enter Try.func5, Try.ntmps5
    go_wp2_with (first | (go_at_call 9; refine (awake_any w).mono ?_; rintro e w1 ⟨rfl, hb1⟩; replace hb1 := Lib.hid hb1) | (go_at_call 14; refine (Hr.out _).mono ?_; rintro e w2 ⟨rfl, hb2⟩; replace hb2 := Lib.hid hb2) | (go_at_call 15; refine (Hq.out _).mono ?_; rintro e w3 ⟨rfl, hb3⟩; replace hb3 := Lib.hid hb3))
    go_ret
    exact ⟨rfl, (hb1.out.trans (hb2.out.mono hb1.out.size)).trans (hb3.out.mono (Nat.le_trans hb1.out.size hb2.out.size))⟩
end Go.Proofs.Ytidacifgnaohjaa
