/-
  The library's functions over spans: contracts of its shelf, laid over this program's numbers: IndexFunc, ContainsFunc, Clone, SortFunc; what the program hands them; cmp.Compare at strings.
-/
import Derived.Test.YtfjgikcbngfhmaaSO
import Derived.Test.YtfjgikcbngfhmaaGC
import Derived.Shelf.SlicesQ.IndexFunc
import Derived.Shelf.SlicesE.Clone
import Derived.Shelf.SlSortCmp.WholeK
namespace Go.Proofs.Ytfjgikcbngfhmaa
open Go.RowKit Go.Shelf

/-- The library's numbers here: the search, the copy. -/
def rhoI : Ren := ⟨fun k => if k = 6 then 42 else if k = 8 then 38 else if k = 41 then 32 else k, fun t => if t = 22 then 26 else if t = 25 then 27 else t, fun g => g⟩
/-- The sort. -/
def rhoS : Ren := ⟨fun k => if k = 6 then 34 else if k = 14 then 43 else if k = 15 then 44 else if k = 20 then 46 else if k = 21 then 47 else if k = 22 then 48 else if k = 23 then 49 else if k = 24 then 50 else if k = 25 then 51 else if k = 26 then 52 else if k = 27 then 53 else
    if k = 28 then 54 else if k = 29 then 55 else if k = 46 then 56 else if k = 47 then 57 else if k = 48 then 58 else if k = 49 then 59 else if k = 50 then 60 else if k = 57 then 61 else k,
  fun t => if t = 22 then 26 else if t = 25 then 45 else if t = 39 then 55 else if t = 45 then 58 else if t = 46 then 59 else if t = 50 then 63 else if t = 53 then 66 else if t = 55 then 68 else if t = 66 then 69 else if t = 70 then 73 else if t = 76 then 75 else if t = 77 then 76 else if t = 24 then 23 else t, fun g => g⟩

theorem ixLays : SlLaysH0.n6 Try.prog rhoI := by
  constructor
  case f6 => exact ⟨Try.f42.name, by kernel_rfl, by kernel_rfl⟩
  all_goals first
    | kernel_rfl
    | (intro w; kernel_rfl)
    | (intro w; rfl)
theorem cfLays : SlLaysH0.n8 Try.prog rhoI := by
  constructor
  case f6 => exact ⟨Try.f42.name, by kernel_rfl, by kernel_rfl⟩
  case f8 => exact ⟨Try.f38.name, by kernel_rfl, by kernel_rfl⟩
  all_goals first
    | kernel_rfl
    | (intro w; kernel_rfl)
    | (intro w; rfl)
theorem clLays : SlLaysE0.n41 Try.prog rhoI := by
  constructor
  case f41 => exact ⟨Try.f32.name, by kernel_rfl, by kernel_rfl⟩
  all_goals first
    | kernel_rfl
    | (intro w; kernel_rfl)
    | (intro w; rfl)
theorem soLays : SlLaysF0.n6 Try.prog rhoS := by
  constructor
  case f6 => exact ⟨Try.f34.name, by kernel_rfl, by kernel_rfl⟩
  case f14 => exact ⟨Try.f43.name, by kernel_rfl, by kernel_rfl⟩
  case f20 => exact ⟨Try.f46.name, by kernel_rfl, by kernel_rfl⟩
  case f21 => exact ⟨Try.f47.name, by kernel_rfl, by kernel_rfl⟩
  case f22 => exact ⟨Try.f48.name, by kernel_rfl, by kernel_rfl⟩
  case f23 => exact ⟨Try.f49.name, by kernel_rfl, by kernel_rfl⟩
  case f24 => exact ⟨Try.f50.name, by kernel_rfl, by kernel_rfl⟩
  case f25 => exact ⟨Try.f51.name, by kernel_rfl, by kernel_rfl⟩
  case f26 => exact ⟨Try.f52.name, by kernel_rfl, by kernel_rfl⟩
  case f27 => exact ⟨Try.f53.name, by kernel_rfl, by kernel_rfl⟩
  case f46 => exact ⟨Try.f56.name, by kernel_rfl, by kernel_rfl⟩
  case f49 => exact ⟨Try.f59.name, by kernel_rfl, by kernel_rfl⟩
  case f50 => exact ⟨Try.f60.name, by kernel_rfl, by kernel_rfl⟩
  case f57 => exact ⟨Try.f61.name, by kernel_rfl, by kernel_rfl⟩
  all_goals first
    | kernel_rfl
    | (intro w; kernel_rfl)
    | (intro w; rfl)

/-- A span's cells. -/
def encS (s : Sp) : List Value := [.string (bs s.1), .string (bs s.2)]
theorem encS_one (x : Sp) (v : Value) (h : v ∈ encS x) : v.oneCell' = true := by simp [encS] at h; rcases h with rfl | rfl <;> rfl

/-- What the deletion is handed: is a span not right? -/
theorem wrong_any (s : Sp) (w : World) : Calls Try.prog 33 #[spV s] w fun e w' => e = .returned (.bool (!validL s)) ∧ Below w.heap.size w w' := by
  have HR := Lib.hid (fun W => right_any s W)
  obtain ⟨a, b⟩ := s
  unfold spV at HR ⊢
  generalize validL (a, b) = r at HR ⊢
  have HW := Lib.hid ((Below.refl _ w).alloc (Nat.le_refl _) (.cells #[.string (bs a), .string (bs b)] 23))
  go_enter Try.func33, Try.ntmps33
  go_wp2_with (go_at_call 12; refine (HR.out _).mono ?_; rintro e w1 ⟨rfl, hb1⟩)
  go_ret
  exact ⟨rfl, HW.out.trans (hb1.mono HW.out.size)⟩
theorem wrong_enters : ∀ args w, (callFunc 33 args).run Try.prog w = .ok (.enter 33 args) w := enters_of Try.func33 (by kernel_rfl) rfl
theorem wrong_below (w : World) : PredBelow Try.prog 33 #[] (fun x => .agg (encS x).toArray) (fun s => !validL s) w := fun W x hb =>
  (wrong_any x W).mono fun _ _ ⟨he, hb'⟩ => ⟨he, hb.trans (hb'.mono hb.size)⟩

theorem nan_any (a : ByteArray) (w : World) : Calls Try.prog 45 #[.string a] w fun e w' => e = .returned (.bool false) ∧ w' = w := by
  go_enter Try.func45, Try.ntmps45
  go_wp2
  go_ret
  exact ⟨rfl, rfl⟩
/-- cmp.Compare at strings. -/
def cmpL (a b : List UInt8) : Int := if ltL a b = true then -1 else if ltL b a = true then 1 else 0
theorem compare_any (a b : List UInt8) (w : World) : Calls Try.prog 36 #[.string (bs a), .string (bs b)] w fun e w' => e = .returned (.int .i64 (cmpL a b)) ∧ w' = w := by
  have H1 := Lib.hid (less_bs a b)
  have H2 := Lib.hid (less_bs b a)
  unfold cmpL
  rw [← H1.out, ← H2.out]
  cases h1 : Op.bytesLess (bs a).toList (bs b).toList with
  | true =>
    rw [if_pos rfl]
    go_enter Try.func36, Try.ntmps36
    go_wp2_with (go_at_call 45; refine (nan_any _ _).mono ?_; rintro e w1 ⟨rfl, rfl⟩)
    go_ret
    exact ⟨rfl, rfl⟩
  | false =>
    rw [if_neg (by simp)]
    cases h2 : Op.bytesLess (bs b).toList (bs a).toList with
    | true =>
      have he : ((bs a).toList == (bs b).toList) = false := by
        rw [H2.out] at h2
        rw [bs_toList, bs_toList]
        refine beq_eq_false_iff_ne.2 fun e => ?_
        rw [e, ltL_irrefl] at h2
        cases h2
      rw [if_pos rfl]
      go_enter Try.func36, Try.ntmps36
      go_wp2_with (go_at_call 45; refine (nan_any _ _).mono ?_; rintro e w1 ⟨rfl, rfl⟩)
      go_ret
      exact ⟨rfl, rfl⟩
    | false =>
      have he : ((bs a).toList == (bs b).toList) = true := by
        rw [H1.out] at h1
        rw [H2.out] at h2
        rw [bs_toList, bs_toList]
        rcases ltL_tri a b with e | e | e
        · rw [h1] at e; cases e
        · rw [e]; exact beq_self_eq_true _
        · rw [h2] at e; cases e
      rw [if_neg (by simp)]
      go_enter Try.func36, Try.ntmps36
      go_wp2_with (go_at_call 45; refine (nan_any _ _).mono ?_; rintro e w1 ⟨rfl, rfl⟩)
      go_ret
      exact ⟨rfl, rfl⟩
/-- What the sort is handed: which of two spans begins first? -/
theorem order_any (x y : Sp) (w : World) : Calls Try.prog 35 #[spV x, spV y] w fun e w' => e = .returned (.int .i64 (cmpL x.1 y.1)) ∧ ∃ q os, w' = Go.Sort.grow (w.drewN q) os := by
  obtain ⟨a, b⟩ := x
  obtain ⟨c, d⟩ := y
  have HC := Lib.hid (fun W => compare_any a c W)
  unfold spV
  simp only
  generalize cmpL a c = r at HC ⊢
  go_enter Try.func35, Try.ntmps35
  go_wp2_with (go_at_call 36; refine (HC.out _).mono ?_; rintro e w1 ⟨rfl, rfl⟩)
  go_ret
  exact ⟨rfl, 0, _, by rw [Go.Sort.alloc_eq_grow, Go.Sort.alloc_eq_grow, Go.Sort.grow_grow]; rfl⟩
theorem order_enters : ∀ args w, (callFunc 35 args).run Try.prog w = .ok (.enter 35 args) w := enters_of Try.func35 (by kernel_rfl) rfl
theorem order_lays (blk off size : Nat) (w : World) : CmpLays Try.prog 35 #[] encS 2 (fun x y : Sp => cmpL x.1 y.1) blk off size w :=
  fun _ _ _ _ x y => order_any x y _
theorem lt_order (x y : Sp) : ltOf (fun x y : Sp => cmpL x.1 y.1) x y = ltL x.1 y.1 := by
  unfold ltOf cmpL
  cases h : ltL x.1 y.1 with
  | true => simp [h]
  | false => cases h2 : ltL y.1 x.1 <;> simp [h, h2]
theorem order_swo : Go.Sort.SWO (ltOf fun x y : Sp => cmpL x.1 y.1) where
  irrefl x := by rw [lt_order]; exact ltL_irrefl _
  trans x y z h1 h2 := by rw [lt_order] at *; exact ltL_trans h1 h2
  ntrans x y z h1 h2 := by rw [lt_order] at *; exact ge_ge h2 h1
end Go.Proofs.Ytfjgikcbngfhmaa
