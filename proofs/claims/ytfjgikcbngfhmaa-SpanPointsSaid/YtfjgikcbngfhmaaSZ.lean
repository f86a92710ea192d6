/-
  The program's own functions answer what the document says.
-/
import Derived.Test.YtfjgikcbngfhmaaGK
namespace Go.Proofs.Ytfjgikcbngfhmaa
theorem good : Good where
  right := right_any
  has := has_any
  key := key_any
  under := under_any
  inside := fun a b w => (inside_any a b w).mono fun _ _ ⟨he, hb⟩ => ⟨by rw [← insL_eq]; exact he, hb⟩
  union := union_any
  covers := covers_any
  minus := minus_any
end Go.Proofs.Ytfjgikcbngfhmaa
