/-
  The laws as the frames want them: texts as they come in.
-/
import Derived.Test.YtfjgikcbngfhmaaSX
namespace Go.Proofs.Ytfjgikcbngfhmaa
open Go.RowKit

theorem has_said (G : Good) (s : Sp) (a : ByteArray) (w : World) : Calls Try.prog 3 #[spV s, .string a] w (Laws w) := by
  have := has_law G s (bl a) w
  rwa [bs_bl] at this
theorem keys_said (G : Good) (a b : ByteArray) (w : World) : Calls Try.prog 4 #[.string a, .string b] w (Laws w) := by
  have := keys_law G (bl a) (bl b) w
  rwa [bs_bl, bs_bl] at this
theorem points_said (G : Good) (l : List Sp) (A : Option Addr) (n cap : Nat) (s : Sp) (a : ByteArray) (w : World) (hn : l.length = n) (hr : RowAt w A (spC l)) (hn32 : (1 + n) * 32 ≤ 140737488355328) : Calls Try.prog 9 #[.slice A n cap, spV s, .string a] w (Laws w) := by
  have := points_law G l A n cap s (bl a) w hn hr hn32
  rwa [bs_bl] at this
end Go.Proofs.Ytfjgikcbngfhmaa
