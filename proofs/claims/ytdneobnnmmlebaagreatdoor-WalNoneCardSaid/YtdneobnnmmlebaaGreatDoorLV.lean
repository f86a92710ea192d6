/- Texts of one claim, joined: LU LV. -/
import Derived.Test.YtdneobnnmmlebaaGreatDoorLT
import Derived.Test.YtdneobnnmmlebaaGreatDoorCards
import Derived.Test.YtdneobnnmmlebaaGreatDoorTie
import Derived.Test.YtdneobnnmmlebaaGreatDoorWY
import Derived.Deep.DeepHandedRow
import Derived.Lib.LaidTab
import Derived.Stop.LaidErr
/-
  The program's own log answers what the laws ask.
-/
namespace Go.Proofs.YtdneobnnmmlebaaGreatDoor
open Go.RowKit

theorem wret_of {G : GoodD} {a : Addr} {g : Nat} {F : Nat → Prop} {res : Int × St} {L' : Lg} {la ct sz : Nat} {w : World} (hla : L'.last = la) (hsz : L'.size = sz) (hct : (if L'.last = 0 then 0 else L'.last + 1 - L'.first) = ct) (hor : L'.last = 0 ∨ (1 ≤ L'.first ∧ L'.first ≤ L'.last)) {e : Ending} {w' : World} (h : WCall G a g F res.1 res.2 la ct sz w e w') :
    WRet G XW a ⟨g, 0, none⟩ F (fun k => k = g) res L' w e w' := by
  obtain ⟨he, F', hd, ho, hg, nx, hw⟩ := h
  refine ⟨he, F', fun k => k = g, hd, ho, hg, fun k hk => .inl hk, fun k hk hx => nx (hx ▸ hk), fun h0 => ⟨g, rfl, rfl, ?_, hor⟩⟩
  rw [hct, hla, hsz]
  exact hw h0
theorem xw_start (G : GoodD) : ∀ (l : List Rc) (A : Option Addr) (n cap : Nat) (x a : Addr) (F FX : Nat → Prop) (L : Lg) (s : St) (w : World), G.D w a F s → XW w x FX a L → (∀ k, F k → ¬ FX k) → Fit s → s.files.length ≤ 999999 → s.off = false → (∀ r ∈ l, rightR r) → l.length = n → RowAt w A (rcC l) →
    (∀ g off, A = some (⟨g, off, none⟩ : Addr) → 0 < n → ¬ F g ∧ ¬ FX g) → (framesL l).length ≤ 500000 → L.last < mostS → TabF (fun k => F k ∨ FX k) w → Calls Tryz.prog 11 #[.pointer (some x), .slice A n cap] w (WRet G XW a x F FX (startW l L s) (startL l L) w) := by
  intro l A n cap x a F FX L s w hd hx hap hfit hfl _ hok hlen hrow _ hu hla ht
  obtain ⟨g, rfl, rfl, hw, hor⟩ := hx
  obtain ⟨fi, la, sz⟩ := L
  simp only at hw hor hla
  refine (wstart_any G a g fi la _ sz F s w l A n cap hd hfit hfl hw (fun h => hap g h rfl) hla ?_ ht hlen hrow hok hu).mono fun e w' h => wret_of (G := G) (L' := startL l ⟨fi, la, sz⟩) rfl rfl ?_ ?_ h
  · rcases hor with h | h
    · exact .inl ⟨h, by rw [if_pos h]⟩
    · rw [if_neg (by omega)]; exact .inr ⟨h.1, by omega, by omega⟩
  · show (if la + 1 = 0 then 0 else la + 1 + 1 - (la + 1)) = 1
    rw [if_neg (by omega)]; omega
  · right
    show 1 ≤ la + 1 ∧ la + 1 ≤ la + 1
    omega
theorem xw_append (G : GoodD) : ∀ (l : List Rc) (A : Option Addr) (n cap : Nat) (x a : Addr) (F FX : Nat → Prop) (L : Lg) (s : St) (w : World), G.D w a F s → XW w x FX a L → (∀ k, F k → ¬ FX k) → Fit s → s.off = false → (∀ r ∈ l, rightR r) → l.length = n → 0 < n → RowAt w A (rcC l) →
    (∀ g off, A = some (⟨g, off, none⟩ : Addr) → 0 < n → ¬ F g ∧ ¬ FX g) → (framesL l).length ≤ 500000 → 1 ≤ L.last → L.last < mostS → TabF (fun k => F k ∨ FX k) w → Calls Tryz.prog 13 #[.pointer (some x), .slice A n cap] w (WRet G XW a x F FX (appendW l L s) (appendL l L) w) := by
  intro l A n cap x a F FX L s w hd hx hap hfit _ hok hlen hn0 hrow hA hu hl1 hla ht
  obtain ⟨g, rfl, rfl, hw, hor⟩ := hx
  obtain ⟨fi, la, sz⟩ := L
  simp only at hw hor hla hl1
  have hor' : 1 ≤ fi ∧ fi ≤ la := by omega
  rw [if_neg (by omega)] at hw
  refine (wappend_any G a g la _ sz F s w l A n cap hd hfit hw (fun h => hap g h rfl) hla (by unfold mostS at hla; omega) (by omega) ht hlen hn0 hrow (fun g' off e => hA g' off e hn0) hok hu).mono fun e w' h => ?_
  by_cases h2 : 2048 ≤ sz
  · have e1 : appendL l ⟨0, la, sz⟩ = ⟨0, la + 1, (framesL l).length⟩ := if_pos h2
    have e2 : appendL l ⟨fi, la, sz⟩ = ⟨fi, la + 1, (framesL l).length⟩ := if_pos h2
    rw [e1, if_pos h2] at h
    rw [e2]
    exact wret_of (G := G) (res := appendW l ⟨fi, la, sz⟩ s) (L' := ⟨fi, la + 1, (framesL l).length⟩) rfl rfl (by show (if la + 1 = 0 then 0 else la + 1 + 1 - fi) = _; rw [if_neg (by omega)]; omega) (.inr ⟨hor'.1, by show fi ≤ la + 1; omega⟩) h
  · have e1 : appendL l ⟨0, la, sz⟩ = ⟨0, la, sz + (framesL l).length⟩ := if_neg h2
    have e2 : appendL l ⟨fi, la, sz⟩ = ⟨fi, la, sz + (framesL l).length⟩ := if_neg h2
    rw [e1, if_neg h2] at h
    rw [e2]
    exact wret_of (G := G) (res := appendW l ⟨fi, la, sz⟩ s) (L' := ⟨fi, la, sz + (framesL l).length⟩) rfl rfl (by show (if la = 0 then 0 else la + 1 - fi) = _; rw [if_neg (by omega)]) (.inr hor') h
/-- The program's own log answers what the document says. -/
def gow : GoodW good where
  X := XW
  foot := fun ⟨g, _, hf, hw, _⟩ k hk => by rw [hf] at hk; rw [hk]; exact Holds.lt hw
  stay := fun ⟨g, hx, hf, hw, ho⟩ _ hk => ⟨g, hx, hf, (hk g (by rw [hf])).trans hw, ho⟩
  opens := fun a F s w hd hfit hoff hfu ht => open_any good a F s w hd hfit hoff hfu ht
  start := xw_start good
  append := xw_append good
  append0 := fun A cap x a FX L w ⟨g, hx, _, hw, ho⟩ h1 => by
    rw [hx]
    rw [if_neg (by omega)] at hw
    exact append_none A cap g a L.last _ L.size w hw (by omega)
  sync := fun x a F FX L s w hd ⟨g, hx, hf, hw, ho⟩ hap hfit _ h1 h2 ht => by
    subst hx hf
    have hc : (if L.last = 0 then 0 else L.last + 1 - L.first) = L.last + 1 - L.first := if_neg (by omega)
    exact (wsync_any good a g L.last _ L.size F s w hd hfit hw (fun h => hap g h rfl) h2 (by rw [hc]; omega) ht).mono fun e w' h => wret_of (G := good) (L' := L) rfl rfl rfl ho h
  segs := fun x a FX L w ⟨g, hx, _, hw, ho⟩ h1 h2 h3 => by
    rw [hx]
    refine (segs_any g a L.last _ L.size w hw).mono fun e w' ⟨he, hw'⟩ => ⟨?_, 0, hw'⟩
    rw [he, if_neg (by omega)]
    have e : ((L.last + 1 - L.first : Nat) : Int) = (L.last : Int) - L.first + 1 := by omega
    rw [e]
end Go.Proofs.YtdneobnnmmlebaaGreatDoor

/-
  What the listed variables give the walks: the library's table of powers of ten; a world in which the tables lie as their text lays them.
-/
namespace Go.Proofs.YtdneobnnmmlebaaGreatDoor
open Go.RowKit

theorem gPow : Tryz.prog.globalNamed "internal/strconv.uint64pow10" = some 0 := by kernel_rfl
theorem tPow : (Tryz.prog.globals[0]?).map (·.type) = some 171 := by kernel_rfl
theorem cells101 : Tryz.prog.cellsOf 101 = 1 := by kernel_rfl
theorem cells171 : Tryz.prog.cellsOf 171 = 20 := by kernel_rfl
def allLaid : List (String × DataW Unit) := [("math/bits.deBruijn32tab", Rows.laid_math_bits_deBruijn32tab), ("math/bits.deBruijn64tab", Rows.laid_math_bits_deBruijn64tab), ("internal/strconv.uint64pow10", Rows.laid_internal_strconv_uint64pow10)]
theorem tab_of {W : World} (h : laidMetH Tryz.prog allLaid W) : Tab W := by
  rw [MakeChecks.laidMetH_plain _ _ _ (by kernel_rfl)] at h
  exact Lib.tabIs_of_head gPow tPow Tryz.underlying171 Tryz.underlying101 cells101 cells171 (rest := []) h.tail.tail
/-- A variable's cells laid anew. -/
def layCells (k : IntKind) (zs : List Int) : Obj → Obj
  | .cells _ t frozen => .cells (zs.map (Value.int k)).toArray t frozen
  | o => o
def db32Z : List Int := [0, 1, 28, 2, 29, 14, 24, 3, 30, 22, 20, 15, 25, 17, 4, 8, 31, 27, 13, 23, 21, 19, 16, 7, 26, 12, 18, 6, 11, 5, 10, 9]
def db64Z : List Int := [0, 1, 56, 2, 57, 49, 28, 3, 61, 58, 42, 50, 38, 29, 17, 4, 62, 47, 59, 36, 45, 43, 51, 22, 53, 39, 33, 30, 24, 18, 12, 5, 63, 55, 48, 27, 60, 41, 37, 16, 46, 35, 44, 21, 52, 32, 23, 11, 54, 26, 40, 15, 34, 20, 31, 10, 25, 14, 19, 9, 13, 8, 7, 6]
/-- A world in which the tables lie as the library's text lays them. -/
noncomputable def laidWorld (os : Os) : World :=
  { World.holding Tryz.prog os ⟨#[], #[], []⟩ with heap := (((World.holding Tryz.prog os ⟨#[], #[], []⟩).heap.modify 0 (layCells .u64 Lib.pow10Tab)).modify 2 (layCells .u8 db32Z)).modify 3 (layCells .u8 db64Z) }
end Go.Proofs.YtdneobnnmmlebaaGreatDoor
