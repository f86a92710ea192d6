/-
  The loops of exchequerref02.Sum, taken out of the translated function, each for a text of its own.
-/
import Derived.Test.YtemiphbblaikjaaDoorRot
namespace Go.Proofs.YtemiphbblaikjaaDoor
/-- The loops of a piece of code that lie in no loop of it, in their order. -/
def loopsIn : Code → List Code
  | .loop c => [c]
  | .seq a b => loopsIn a ++ loopsIn b
  | .block _ c => loopsIn c
  | .scope c => loopsIn c
  | .cond _ a b => loopsIn a ++ loopsIn b
  | _ => []
noncomputable def sumBody : Code := Tryd.f11.body.getD .skip
noncomputable def blockBody : Code := match loopsIn sumBody with | _ :: c :: _ => c | _ => .skip
noncomputable def firstBody : Code := match loopsIn blockBody with | c :: _ => c | _ => .skip
noncomputable def restBody : Code := match loopsIn blockBody with | _ :: c :: _ => c | _ => .skip
noncomputable def roundBody : Code := match loopsIn blockBody with | _ :: _ :: c :: _ => c | _ => .skip
noncomputable def outBody : Code := match loopsIn sumBody with | _ :: _ :: c :: _ => c | _ => .skip
/-- What is asked behind a piece of code that only leaves a block. -/
def onlyExit (n : Nat) (R : Act → World → Prop) : Exit → Act → World → Prop
  | .exit m, a, w => m = n ∧ R a w
  | _, _, _ => False
theorem onlyExit_mk {n : Nat} {R : Act → World → Prop} {a : Act} {w : World} (h : R a w) : onlyExit n R (.exit n) a w := ⟨rfl, h⟩
theorem wp_only {P : Program} {c : Code} {Q : Exit → Act → World → Prop} {a : Act} {w : World} (n : Nat) (h : c.wp P (onlyExit n fun a w => Q (.exit n) a w) a w) : c.wp P Q a w :=
  Code.wp_mono (fun e a w hq => by
    cases e with
    | exit m => obtain ⟨rfl, h⟩ := hq; exact h
    | _ => exact hq.elim) h
end Go.Proofs.YtemiphbblaikjaaDoor
