/-
  A disk that isn't there answers what the document says.
-/
import Derived.Test.YtbgfkjafablfiaaDL
namespace Go.Proofs.Ytbgfkjafablfiaa
open Go.RowKit

theorem down_none (w : World) : Calls Try.prog 19 #[.pointer none] w fun e w' => e = .returned (.bool true) ∧ w' = w := by
  go_enter Try.func19, Try.ntmps19
  go_wp2
  go_ret
  exact ⟨rfl, rfl⟩
theorem find_none (x : ByteArray) (w : World) : Calls Try.prog 35 #[.pointer none, .string x] w fun e w' => e = .returned (.tuple #[.pointer none, .int .i64 7]) ∧ w' = w := by
  go_enter Try.func35, Try.ntmps35
  go_wp2_with (go_at_call 19; refine (down_none _).mono ?_; rintro e w' ⟨rfl, rfl⟩)
  go_ret2
  exact ⟨rfl, rfl⟩
theorem refused_none (x : ByteArray) (n : Int) (w : World) : Calls Try.prog 33 #[.pointer none, .string x, .int .i64 n] w fun e w' => e = .returned (.int .i64 7) ∧ w' = w := by
  go_enter Try.func33, Try.ntmps33
  go_wp2_with (go_at_call 19; refine (down_none _).mono ?_; rintro e w' ⟨rfl, rfl⟩)
  go_ret
  exact ⟨rfl, rfl⟩
theorem perform_none (w : World) : Calls Try.prog 32 #[.pointer none, .int .i64 7] w fun e w' => e = .returned (.int .i64 7) ∧ w' = w := perform_err 7 (by decide) none w
theorem nond : NoneD where
  append := fun x y w => by
    go_enter Try.func14, Try.ntmps14
    go_wp2_with (first | (go_at_call 33; refine (refused_none _ _ _).mono ?_; rintro e w' ⟨rfl, rfl⟩) | (go_at_call 32; refine (perform_none _).mono ?_; rintro e w' ⟨rfl, rfl⟩))
    go_ret
    exact ⟨rfl, Below.refl _ _⟩
  sync := fun x w => by
    go_enter Try.func15, Try.ntmps15
    go_wp2_with (first | (go_at_call 35; refine (find_none _ _).mono ?_; rintro e w' ⟨rfl, rfl⟩) | (go_at_call 32; refine (perform_none _).mono ?_; rintro e w' ⟨rfl, rfl⟩))
    go_ret
    exact ⟨rfl, Below.refl _ _⟩
  cut := fun x n w _ => by
    go_enter Try.func21, Try.ntmps21
    go_wp2_with (first | (go_at_call 35; refine (find_none _ _).mono ?_; rintro e w' ⟨rfl, rfl⟩) | (go_at_call 32; refine (perform_none _).mono ?_; rintro e w' ⟨rfl, rfl⟩))
    go_ret
    exact ⟨rfl, Below.refl _ _⟩
  remove := fun x w => by
    go_enter Try.func22, Try.ntmps22
    go_wp2_with (first | (go_at_call 35; refine (find_none _ _).mono ?_; rintro e w' ⟨rfl, rfl⟩) | (go_at_call 32; refine (perform_none _).mono ?_; rintro e w' ⟨rfl, rfl⟩))
    go_ret
    exact ⟨rfl, Below.refl _ _⟩
  read := fun x w => by
    go_enter Try.func17, Try.ntmps17
    go_wp2_with (go_at_call 35; refine (find_none _ _).mono ?_; rintro e w' ⟨rfl, rfl⟩)
    go_ret2
    exact ⟨rfl, Below.refl _ _⟩
  crash := fun v w => by
    go_enter Try.func16, Try.ntmps16
    go_wp2
    go_end0
    exact ⟨rfl, Below.refl _ _⟩
  fuse := fun n w _ => by
    go_enter Try.func18, Try.ntmps18
    go_wp2
    go_end0
    exact ⟨rfl, Below.refl _ _⟩
  room := fun n w _ => by
    go_enter Try.func24, Try.ntmps24
    go_wp2
    go_ret
    exact ⟨rfl, Below.refl _ _⟩
  down := fun w => (down_none w).mono fun _ _ ⟨he, hw⟩ => ⟨he, by rw [hw]; exact Below.refl _ _⟩
  used := fun w => by
    go_enter Try.func20, Try.ntmps20
    go_wp2_with (go_at_call 19; refine (down_none _).mono ?_; rintro e w' ⟨rfl, rfl⟩)
    go_ret
    exact ⟨rfl, Below.refl _ _⟩
  names := fun w => by
    go_enter Try.func23, Try.ntmps23
    go_wp2_with (go_at_call 19; refine (down_none _).mono ?_; rintro e w' ⟨rfl, rfl⟩)
    go_ret
    exact ⟨⟨none, 0, rfl⟩, Below.refl _ _⟩
end Go.Proofs.Ytbgfkjafablfiaa
