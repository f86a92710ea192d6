/-
  The contracts of name's allowed and broken.
-/
import Derived.Test.YtbgfkjafablfiaaRA
import Derived.Test.YtbgfkjafablfiaaRefD
import Derived.Shelf.Strings.Prefix
import Derived.Lib.OthersKept
namespace Go.Proofs.Ytbgfkjafablfiaa
open Go.RowKit Go.Shelf

/-- The library's numbers here. -/
def rhoP : Ren := ⟨fun k => if k = 99 then 54 else if k = 206 then 58 else k, fun t => t, fun g => g⟩
theorem hpLays : Lays.n99 Try.prog rhoP := by
  constructor
  all_goals first
    | kernel_rfl
    | (intro w; kernel_rfl)
    | (intro w; rfl)
theorem prefix_any (s p : ByteArray) (w : World) : Calls Try.prog 54 #[.string s, .string p] w fun e w' => e = .returned (.bool (Lib.hasPrefix (bl s) (bl p))) ∧ w' = w := by
  have h := Any.strings_HasPrefix hpLays s p w
  rw [← bl_eq, ← bl_eq] at h
  exact h

/-- May a name have this rune? -/
@[irreducible] def nameN (c : Nat) : Bool := decide ((97 ≤ c ∧ c ≤ 122) ∨ (48 ≤ c ∧ c ≤ 57) ∨ c = 95 ∨ c = 45 ∨ 161 ≤ c)

set_option maxRecDepth 100000 in
set_option maxHeartbeats 2000000 in
theorem allowed_any (c : Nat) (w : World) (h : c ≤ 1114111) : Calls Try.prog 47 #[.int .i32 (c : Int)] w fun e w' => e = .returned (.bool (nameN c)) ∧ w' = w := by
  have cls : (0 ≤ c ∧ c ≤ 44) ∨ (45 ≤ c ∧ c ≤ 45) ∨ (46 ≤ c ∧ c ≤ 47) ∨ (48 ≤ c ∧ c ≤ 57) ∨ (58 ≤ c ∧ c ≤ 94) ∨ (95 ≤ c ∧ c ≤ 95) ∨ (96 ≤ c ∧ c ≤ 96) ∨ (97 ≤ c ∧ c ≤ 122) ∨ (123 ≤ c ∧ c ≤ 160) ∨ (161 ≤ c ∧ c ≤ 1114111) := by omega
  rcases cls with cl | cl | cl | cl | cl | cl | cl | cl | cl | cl
  · have Hd : Hid (nameN c = false) := Lib.hid (by unfold nameN; exact decide_eq_false (by omega))
    have f0 : ¬ (97 : Int) ≤ (c : Int) := by omega
    have f1 : (c : Int) ≤ 122 := by omega
    have f2 : ¬ (48 : Int) ≤ (c : Int) := by omega
    have f3 : (c : Int) ≤ 57 := by omega
    have f4 : ((c : Int) == 45) = false := by simp; omega
    have f5 : ((c : Int) == 95) = false := by simp; omega
    have f6 : ¬ (161 : Int) ≤ (c : Int) := by omega
    clear cl
    go_enter Try.func47, Try.ntmps47
    go_wp2
    go_ret
    exact ⟨by rw [Hd.out]; rfl, rfl⟩
  · have Hd : Hid (nameN c = true) := Lib.hid (by unfold nameN; exact decide_eq_true (by omega))
    have f0 : ¬ (97 : Int) ≤ (c : Int) := by omega
    have f1 : (c : Int) ≤ 122 := by omega
    have f2 : ¬ (48 : Int) ≤ (c : Int) := by omega
    have f3 : (c : Int) ≤ 57 := by omega
    have f4 : ((c : Int) == 45) = true := by simp; omega
    have f5 : ((c : Int) == 95) = false := by simp; omega
    have f6 : ¬ (161 : Int) ≤ (c : Int) := by omega
    clear cl
    go_enter Try.func47, Try.ntmps47
    go_wp2
    go_ret
    exact ⟨by rw [Hd.out]; rfl, rfl⟩
  · have Hd : Hid (nameN c = false) := Lib.hid (by unfold nameN; exact decide_eq_false (by omega))
    have f0 : ¬ (97 : Int) ≤ (c : Int) := by omega
    have f1 : (c : Int) ≤ 122 := by omega
    have f2 : ¬ (48 : Int) ≤ (c : Int) := by omega
    have f3 : (c : Int) ≤ 57 := by omega
    have f4 : ((c : Int) == 45) = false := by simp; omega
    have f5 : ((c : Int) == 95) = false := by simp; omega
    have f6 : ¬ (161 : Int) ≤ (c : Int) := by omega
    clear cl
    go_enter Try.func47, Try.ntmps47
    go_wp2
    go_ret
    exact ⟨by rw [Hd.out]; rfl, rfl⟩
  · have Hd : Hid (nameN c = true) := Lib.hid (by unfold nameN; exact decide_eq_true (by omega))
    have f0 : ¬ (97 : Int) ≤ (c : Int) := by omega
    have f1 : (c : Int) ≤ 122 := by omega
    have f2 : (48 : Int) ≤ (c : Int) := by omega
    have f3 : (c : Int) ≤ 57 := by omega
    have f4 : ((c : Int) == 45) = false := by simp; omega
    have f5 : ((c : Int) == 95) = false := by simp; omega
    have f6 : ¬ (161 : Int) ≤ (c : Int) := by omega
    clear cl
    go_enter Try.func47, Try.ntmps47
    go_wp2
    go_ret
    exact ⟨by rw [Hd.out]; rfl, rfl⟩
  · have Hd : Hid (nameN c = false) := Lib.hid (by unfold nameN; exact decide_eq_false (by omega))
    have f0 : ¬ (97 : Int) ≤ (c : Int) := by omega
    have f1 : (c : Int) ≤ 122 := by omega
    have f2 : (48 : Int) ≤ (c : Int) := by omega
    have f3 : ¬ (c : Int) ≤ 57 := by omega
    have f4 : ((c : Int) == 45) = false := by simp; omega
    have f5 : ((c : Int) == 95) = false := by simp; omega
    have f6 : ¬ (161 : Int) ≤ (c : Int) := by omega
    clear cl
    go_enter Try.func47, Try.ntmps47
    go_wp2
    go_ret
    exact ⟨by rw [Hd.out]; rfl, rfl⟩
  · have Hd : Hid (nameN c = true) := Lib.hid (by unfold nameN; exact decide_eq_true (by omega))
    have f0 : ¬ (97 : Int) ≤ (c : Int) := by omega
    have f1 : (c : Int) ≤ 122 := by omega
    have f2 : (48 : Int) ≤ (c : Int) := by omega
    have f3 : ¬ (c : Int) ≤ 57 := by omega
    have f4 : ((c : Int) == 45) = false := by simp; omega
    have f5 : ((c : Int) == 95) = true := by simp; omega
    have f6 : ¬ (161 : Int) ≤ (c : Int) := by omega
    clear cl
    go_enter Try.func47, Try.ntmps47
    go_wp2
    go_ret
    exact ⟨by rw [Hd.out]; rfl, rfl⟩
  · have Hd : Hid (nameN c = false) := Lib.hid (by unfold nameN; exact decide_eq_false (by omega))
    have f0 : ¬ (97 : Int) ≤ (c : Int) := by omega
    have f1 : (c : Int) ≤ 122 := by omega
    have f2 : (48 : Int) ≤ (c : Int) := by omega
    have f3 : ¬ (c : Int) ≤ 57 := by omega
    have f4 : ((c : Int) == 45) = false := by simp; omega
    have f5 : ((c : Int) == 95) = false := by simp; omega
    have f6 : ¬ (161 : Int) ≤ (c : Int) := by omega
    clear cl
    go_enter Try.func47, Try.ntmps47
    go_wp2
    go_ret
    exact ⟨by rw [Hd.out]; rfl, rfl⟩
  · have Hd : Hid (nameN c = true) := Lib.hid (by unfold nameN; exact decide_eq_true (by omega))
    have f0 : (97 : Int) ≤ (c : Int) := by omega
    have f1 : (c : Int) ≤ 122 := by omega
    have f2 : (48 : Int) ≤ (c : Int) := by omega
    have f3 : ¬ (c : Int) ≤ 57 := by omega
    have f4 : ((c : Int) == 45) = false := by simp; omega
    have f5 : ((c : Int) == 95) = false := by simp; omega
    have f6 : ¬ (161 : Int) ≤ (c : Int) := by omega
    clear cl
    go_enter Try.func47, Try.ntmps47
    go_wp2
    go_ret
    exact ⟨by rw [Hd.out]; rfl, rfl⟩
  · have Hd : Hid (nameN c = false) := Lib.hid (by unfold nameN; exact decide_eq_false (by omega))
    have f0 : (97 : Int) ≤ (c : Int) := by omega
    have f1 : ¬ (c : Int) ≤ 122 := by omega
    have f2 : (48 : Int) ≤ (c : Int) := by omega
    have f3 : ¬ (c : Int) ≤ 57 := by omega
    have f4 : ((c : Int) == 45) = false := by simp; omega
    have f5 : ((c : Int) == 95) = false := by simp; omega
    have f6 : ¬ (161 : Int) ≤ (c : Int) := by omega
    clear cl
    go_enter Try.func47, Try.ntmps47
    go_wp2
    go_ret
    exact ⟨by rw [Hd.out]; rfl, rfl⟩
  · have Hd : Hid (nameN c = true) := Lib.hid (by unfold nameN; exact decide_eq_true (by omega))
    have f0 : (97 : Int) ≤ (c : Int) := by omega
    have f1 : ¬ (c : Int) ≤ 122 := by omega
    have f2 : (48 : Int) ≤ (c : Int) := by omega
    have f3 : ¬ (c : Int) ≤ 57 := by omega
    have f4 : ((c : Int) == 45) = false := by simp; omega
    have f5 : ((c : Int) == 95) = false := by simp; omega
    have f6 : (161 : Int) ≤ (c : Int) := by omega
    clear cl
    go_enter Try.func47, Try.ntmps47
    go_wp2
    go_ret
    exact ⟨by rw [Hd.out]; rfl, rfl⟩

/-- The bytes of U+FFFD. -/
def fffd : List UInt8 := [239, 191, 189]
theorem hasPrefix_iff (r : List UInt8) : Lib.hasPrefix r fffd = true ↔ byteN r 0 = 239 ∧ byteN r 1 = 191 ∧ byteN r 2 = 189 := by
  unfold Lib.hasPrefix fffd
  have two : ∀ (x y : UInt8), (x == y) = decide (x.toNat = y.toNat) := fun x y => by
    by_cases e : x = y
    · subst e; simp
    · have : x.toNat ≠ y.toNat := fun h => e (UInt8.toNat_inj.1 h)
      simp [e, this]
  match r with
  | [] => simp [byteN]
  | [x] => simp [byteN]
  | [x, y] => simp [byteN]
  | x :: y :: z :: t =>
    have e0 : byteN (x :: y :: z :: t) 0 = x.toNat := rfl
    have e1 : byteN (x :: y :: z :: t) 1 = y.toNat := rfl
    have e2 : byteN (x :: y :: z :: t) 2 = z.toNat := rfl
    rw [e0, e1, e2]
    simp only [List.isPrefixOf, two, Bool.and_eq_true, decide_eq_true_eq, Bool.and_true]
    have a : (239 : UInt8).toNat = 239 := rfl
    have b : (191 : UInt8).toNat = 191 := rfl
    have c : (189 : UInt8).toNat = 189 := rfl
    rw [a, b, c]
    constructor
    · rintro ⟨h1, h2, h3⟩; exact ⟨h1.symm, h2.symm, h3.symm⟩
    · rintro ⟨h1, h2, h3⟩; exact ⟨h1.symm, h2.symm, h3.symm⟩
/-- U+FFFD where it isn't written is a byte that is no rune. -/
theorem told_broken (r : List UInt8) (h : toldL r = 65533) : Lib.hasPrefix r fffd = decide (sizeL r ≠ 0) := by
  by_cases hs : sizeL r = 0
  · rw [decide_eq_false (by omega)]
    cases hp : Lib.hasPrefix r fffd with
    | false => rfl
    | true =>
      exfalso
      obtain ⟨h0, h1, h2⟩ := (hasPrefix_iff r).1 hp
      have hl : 3 ≤ r.length := by
        rcases Nat.lt_or_ge r.length 3 with hl | hl
        · have := byteN_out r 2 (by omega); omega
        · exact hl
      rcases sizeL_spec r with ⟨g, _⟩ | ⟨g, _⟩ | ⟨g, _⟩ | ⟨g, _⟩ | ⟨_, _, _, c, _⟩
      · omega
      · omega
      · omega
      · omega
      · unfold Three at c; omega
  · rw [decide_eq_true hs]
    rw [hasPrefix_iff]
    unfold toldL at h
    rw [if_neg hs] at h
    have h4 := sizeL_le4 r
    have : sizeL r = 1 ∨ sizeL r = 2 ∨ sizeL r = 3 ∨ sizeL r = 4 := by omega
    rcases this with g | g | g | g
    · have := codeL_one g; omega
    · have := codeL_two g; omega
    · rcases sizeL_spec r with ⟨g', _⟩ | ⟨g', _⟩ | ⟨g', c⟩ | ⟨g', _⟩ | ⟨g', _⟩
      · omega
      · omega
      · unfold codeL at h
        rw [if_neg (by omega), if_neg (by omega), if_pos g] at h
        unfold Three at c
        omega
      · omega
      · omega
    · have := codeL_four g; omega

set_option maxRecDepth 100000 in
set_option maxHeartbeats 1000000 in
theorem broken_any (t : ByteArray) (w : World) : Calls Try.prog 48 #[.string t, .int .i32 (toldL (bl t) : Nat)] w fun e w' => e = .returned (.bool (decide (sizeL (bl t) = 0))) ∧ w' = w := by
  have Hb := Lib.hid (told_broken (bl t))
  have Hz : Hid (toldL (bl t) ≠ 65533 → decide (sizeL (bl t) = 0) = false) := Lib.hid (fun h => decide_eq_false (fun g => h ((told_bad _).2 g).1))
  have Hq : Hid (∀ w, Calls Try.prog 54 #[.string t, .string { data := #[239, 191, 189] }] w fun e w' => e = .returned (.bool (Lib.hasPrefix (bl t) fffd)) ∧ w' = w) := Lib.hid (fun w => by
    have := prefix_any t { data := #[239, 191, 189] } w
    rw [show bl { data := #[239, 191, 189] } = fffd by rw [bl_eq]; rfl] at this
    exact this)
  generalize toldL (bl t) = c at *
  by_cases hc : c = 65533
  · subst hc
    have hp : Hid (Lib.hasPrefix (bl t) fffd = decide (sizeL (bl t) ≠ 0)) := Lib.hid (Hb.out rfl)
    rw [hp.out] at Hq
    by_cases hs : sizeL (bl t) = 0
    · have Hd : Hid (decide (sizeL (bl t) = 0) = true) := Lib.hid (decide_eq_true hs)
      rw [decide_eq_false (by omega)] at Hq
      clear hs
      go_enter Try.func48, Try.ntmps48
      go_wp2_with (go_at_call 54; refine (Hq.out _).mono ?_; rintro e w' ⟨rfl, rfl⟩)
      go_ret
      exact ⟨by rw [Hd.out]; rfl, rfl⟩
    · have Hd : Hid (decide (sizeL (bl t) = 0) = false) := Lib.hid (decide_eq_false hs)
      rw [decide_eq_true hs] at Hq
      clear hs
      go_enter Try.func48, Try.ntmps48
      go_wp2_with (go_at_call 54; refine (Hq.out _).mono ?_; rintro e w' ⟨rfl, rfl⟩)
      go_ret
      exact ⟨by rw [Hd.out]; rfl, rfl⟩
  · have hc' : ((c : Int) == 65533) = false := by simp; omega
    have Hd : Hid (decide (sizeL (bl t) = 0) = false) := Lib.hid (Hz.out hc)
    go_enter Try.func48, Try.ntmps48
    go_wp2
    go_ret
    exact ⟨by rw [Hd.out]; rfl, rfl⟩
end Go.Proofs.Ytbgfkjafablfiaa
