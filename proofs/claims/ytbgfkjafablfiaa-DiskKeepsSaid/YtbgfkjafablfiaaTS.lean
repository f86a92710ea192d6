/-
  DiskFuses, from what it asks of the program's own disk.
-/
import Derived.Test.YtbgfkjafablfiaaTR
namespace Go.Proofs.Ytbgfkjafablfiaa
open Go.RowKit

/-- The law's loop: while the fuse burns, and behind it. -/
structure FuseI (G : GoodD) (w : World) (a : Addr) (l : List (List UInt8)) (n i : Nat) (F : Nat → Prop) (x : Ox) (fuse : Int) (off : Bool) (wr : World) : Prop where
  lone : Lone G w.heap.size wr a F (discX x fuse off)
  since : Below w.heap.size w wr
  all : wholeX x = catL (l.take (min i n))
  size : (catL (l.take (min i n))).length ≤ 1000 * i
  none : x = none → min i n = 0
  burn : i ≤ n → fuse = (n : Int) - i ∧ off = false
  out : n < i → fuse = 0 ∧ off = true
  late : ∀ y, x = some y → y.1 = []
theorem FuseI.grown {G : GoodD} {w : World} {a : Addr} {l : List (List UInt8)} {n i : Nat} {F : Nat → Prop} {x : Ox} {fuse : Int} {off : Bool} {wr : World} (h : FuseI G w a l n i F x fuse off wr) : w.heap.size ≤ wr.heap.size := h.since.size

set_option maxRecDepth 100000 in
set_option maxHeartbeats 4000000 in
theorem fuses_law (G : GoodD) (l : List (List UInt8)) (A : Option Addr) (n cap : Nat) (u : Nat) (w : World)
    (hn : l.length = n) (hr : RowAt w A (strC l)) (_hn1 : n ≤ 9223372036854775807) (hu : u ≤ 255) (hls : ∀ s ∈ l, s.length ≤ 9223372036854775807) :
    Calls Try.prog 5 #[.slice A n cap, .int .u8 u] w (Laws w) := by
  have Hn := Lib.hid hn
  have Hr := Lib.hid hr
  have Hls := Lib.hid hls
  clear hn hr hls
  have HA := Lib.hid (awake_any G w)
  have sf : ({ data := #[102] } : ByteArray) = bs [102] := by rw [bs_eq]
  have HN := Lib.hid (fun W => G.new 8388608 W (by omega) (by omega))
  go_enter Try.func5, Try.ntmps5
  go_wp2_with fail
  refine HA.out.mono ?_
  rintro e w1 ⟨rfl, hb1⟩
  have B1 := Lib.hid hb1
  clear hb1 HA
  go_wp2_with fail
  refine (HN.out w1).mono ?_
  rintro e w2 ⟨a, F, rfl, hd, hF, hb2⟩
  have L2 := Lib.hid (⟨hd, fun k hk => Nat.le_trans B1.out.size (hF k hk)⟩ : Lone G w.heap.size w2 a F (discX none (-1) false))
  have B2 := Lib.hid (B1.out.trans (hb2.mono B1.out.size))
  have Z2 : Hid (w.heap.size ≤ w2.heap.size) := Lib.hid B2.out.size
  have HFu := Lib.hid (L2.out.ret Z2.out (G.fuse u a F _ w2 L2.out.d (by unfold I64; omega)))
  rw [fuse_new] at HFu
  clear hd hF hb2 HN B1
  go_wp2_with fail
  refine HFu.out.mono ?_
  rintro e w3 ⟨rfl, F3, l3, b3, z3⟩
  have HI : Hid (FuseI G w a l u 0 F3 none u false w3) := Lib.hid
    ⟨l3, B2.out.trans b3, by simp [catL, wholeX], by simp [catL], by simp, fun _ => ⟨by omega, rfl⟩, fun h => absurd h (by omega), by simp⟩
  clear l3 b3 z3 HFu L2 B2 Z2
  go_wp2_with fail
  go_loopw [7, 8] (fun dv iv wr => ∃ i : Nat, ∃ F x fuse off, i ≤ n ∧ i ≤ 100 ∧ iv = .int .i64 i ∧ dv = .string (bs (catL (l.take (min i u)))) ∧ FuseI G w a l u i F x fuse off wr) (fun _ iv _ => n - (intOf iv).toNat)
  case atStart => exact ⟨0, F3, none, u, false, Nat.zero_le _, Nat.zero_le _, rfl, by rw [bs_eq]; simp [catL], HI.out⟩
  case round =>
    clear HI
    obtain ⟨i, F', x, fuse, off, hi, hi2, rfl, rfl, hI⟩ := hrel
    have HI := Lib.hid hI
    clear hI
    have hcl : (catL (l.take (min i u))).length ≤ 100000 := by have := HI.out.size; omega
    have ec : (bs (catL (l.take (min i u)))).size = (catL (l.take (min i u))).length := bs_size _
    by_cases hlt : i < n ∧ i < 100
    · obtain ⟨hlt, hl2⟩ := hlt
      have hltz : (i : Int) < (n : Int) := by omega
      have hltz2 : (i : Int) < (100 : Int) := by omega
      obtain ⟨b, hb⟩ : ∃ b, l[i]? = some b := ⟨_, List.getElem?_eq_getElem (by rw [Hn.out]; exact hlt)⟩
      have hbl := Hls.out b (List.mem_of_getElem? hb)
      obtain ⟨g, off1, rfl, hg, hc⟩ := row_str (Hr.out.below HI.out.since (Nat.le_refl _)) i b hb
      have eb : (bs b).size = b.length := bs_size _
      have Hcat := Lib.hid (cat_next hb)
      have Hcw : Hid (∀ W, Below w.heap.size w W → W.cell? ⟨g, off1 + i, none⟩ = some (.string (bs b))) := Lib.hid (fun W hW => by
        obtain ⟨b', off', e1, h1, h2⟩ := row_str Hr.out i b hb
        injection e1 with e1
        injection e1 with e1 e2
        subst e1
        subst e2
        exact (hW.cell h1).trans h2)
      clear hb
      by_cases hbig : b.length ≤ 1000
      · have hbz : ¬ (1000 : Int) < (b.length : Int) := by omega
        by_cases hiu : i < u
        · have hiuz : (i : Int) < (u : Int) := by omega
          obtain ⟨rfl, rfl⟩ := HI.out.burn (by omega)
          have Hm1 : Hid (min i u = i) := Lib.hid (by omega)
          have Hm2 : Hid (min (i + 1) u = i + 1) := Lib.hid (by omega)
          have HP := Lib.hid (HI.out.lone.ret HI.out.grown (G.append [102] b a F' _ wr HI.out.lone.d (fit_one x _ false (by rw [HI.out.all]; omega) (by omega) (by omega)) (by decide) (by omega)))
          rw [append_one b x _ (by rw [HI.out.all]; omega), if_neg (by omega), if_pos (by omega)] at HP
          go_wp2_with fail
          refine HP.out.mono ?_
          rintro e w5 ⟨rfl, F5, l5, b5, z5⟩
          have L5 := Lib.hid l5
          have B5 := Lib.hid (HI.out.since.trans b5)
          clear l5 b5 z5 HP hc
          have hc := Hcw.out _ B5.out
          go_wp2
          go_roundw
          case rel =>
            refine ⟨i + 1, F5, moreX b x, (u : Int) - i - 1, false, by omega, by omega, by go_num, ?_, L5.out, B5.out, ?_, ?_, ?_, fun _ => ⟨by omega, rfl⟩, fun h => absurd h (by omega), ?_⟩
            · rw [bs_append, Hm1.out, Hm2.out, Hcat.out]
            · rw [Hm2.out, whole_more, HI.out.all, Hm1.out, Hcat.out]
            · rw [Hm2.out, Hcat.out, List.length_append]; have := HI.out.size; rw [Hm1.out] at this; omega
            · intro h; rw [more_some] at h; cases h
            · intro y hy
              cases x with
              | none => simp only [moreX, Option.some.injEq] at hy; rw [← hy]
              | some z => simp only [moreX, Option.some.injEq] at hy; rw [← hy]; exact HI.out.late z rfl
          case measure => simp [intOf]; omega
        · have hiuz : ¬ (i : Int) < (u : Int) := by omega
          have hmin : min (i + 1) u = min i u := by omega
          by_cases hiu2 : i = u
          · obtain ⟨rfl, rfl⟩ := HI.out.burn (by omega)
            have HP := Lib.hid (HI.out.lone.ret HI.out.grown (G.append [102] b a F' _ wr HI.out.lone.d (fit_one x _ false (by rw [HI.out.all]; omega) (by omega) (by omega)) (by decide) (by omega)))
            rw [append_one b x _ (by rw [HI.out.all]; omega), if_pos (by omega), show (u : Int) - (i : Int) = 0 by omega] at HP
            clear hiu2
            go_wp2_with fail
            refine HP.out.mono ?_
            rintro e w5 ⟨rfl, F5, l5, b5, z5⟩
            have L5 := Lib.hid l5
            have B5 := Lib.hid (HI.out.since.trans b5)
            have Z5 := Lib.hid z5
            have HD : Hid (Calls Try.prog 19 #[.pointer (some a)] w5 fun e w' => e = .returned (.bool true) ∧ Below w5.heap.size w5 w') := Lib.hid (G.down a F5 _ w5 L5.out.d)
            clear l5 b5 z5 HP hc
            have hc := Hcw.out _ B5.out
            go_wp2_with fail
            refine HD.out.mono ?_
            rintro e w6 ⟨rfl, b6⟩
            have L6 := Lib.hid (L5.out.below b6)
            have B6 := Lib.hid (B5.out.trans (b6.mono Z5.out))
            clear b6 HD hc
            have hc := Hcw.out _ B6.out
            go_wp2
            go_roundw
            case rel =>
              refine ⟨i + 1, F5, x, 0, true, by omega, by omega, by go_num, ?_, L6.out, B6.out, ?_, ?_, ?_, fun h => absurd h (by omega), fun _ => ⟨rfl, rfl⟩, HI.out.late⟩
              · rw [hmin]
              · rw [hmin]; exact HI.out.all
              · rw [hmin]; have := HI.out.size; omega
              · rw [hmin]; exact HI.out.none
            case measure => simp [intOf]; omega
          · obtain ⟨rfl, rfl⟩ := HI.out.out (by omega)
            have HP := Lib.hid (HI.out.lone.ret HI.out.grown (G.append [102] b a F' _ wr HI.out.lone.d (fit_one x _ true (by rw [HI.out.all]; omega) (by omega) (by omega)) (by decide) (by omega)))
            rw [append_down b x 0] at HP
            clear hiu2
            go_wp2_with fail
            refine HP.out.mono ?_
            rintro e w5 ⟨rfl, F5, l5, b5, z5⟩
            have L5 := Lib.hid l5
            have B5 := Lib.hid (HI.out.since.trans b5)
            have Z5 := Lib.hid z5
            have HD : Hid (Calls Try.prog 19 #[.pointer (some a)] w5 fun e w' => e = .returned (.bool true) ∧ Below w5.heap.size w5 w') := Lib.hid (G.down a F5 _ w5 L5.out.d)
            clear l5 b5 z5 HP hc
            have hc := Hcw.out _ B5.out
            go_wp2_with fail
            refine HD.out.mono ?_
            rintro e w6 ⟨rfl, b6⟩
            have L6 := Lib.hid (L5.out.below b6)
            have B6 := Lib.hid (B5.out.trans (b6.mono Z5.out))
            clear b6 HD hc
            have hc := Hcw.out _ B6.out
            go_wp2
            go_roundw
            case rel =>
              refine ⟨i + 1, F5, x, 0, true, by omega, by omega, by go_num, ?_, L6.out, B6.out, ?_, ?_, ?_, fun h => absurd h (by omega), fun _ => ⟨rfl, rfl⟩, HI.out.late⟩
              · rw [hmin]
              · rw [hmin]; exact HI.out.all
              · rw [hmin]; have := HI.out.size; omega
              · rw [hmin]; exact HI.out.none
            case measure => simp [intOf]; omega
      · have hbz : (1000 : Int) < (b.length : Int) := by omega
        go_wp2
        go_ret
        exact ⟨rfl, HI.out.since⟩
    · have Hcut : Hid (i = n ∨ i = 100) := Lib.hid (by omega)
      have Hf : Hid (-1 ≤ fuse ∧ fuse ≤ 9223372036854775807) := Lib.hid (by
        rcases Nat.lt_or_ge u i with h | h
        · obtain ⟨h1, _⟩ := HI.out.out h; omega
        · obtain ⟨h1, _⟩ := HI.out.burn h; omega)
      have HD : Hid (Calls Try.prog 19 #[.pointer (some a)] wr fun e w' => e = .returned (.bool off) ∧ Below wr.heap.size wr w') := Lib.hid (G.down a F' _ wr HI.out.lone.d)
      by_cases h5 : (i : Int) < (n : Int)
      · have h6 : ¬ (i : Int) < 100 := by have := Hcut.out; omega
        clear hlt
        go_wp2_with fail
        refine HD.out.mono ?_
        rintro e w5 ⟨rfl, b5⟩
        have L5 := Lib.hid (HI.out.lone.below b5)
        have B5 := Lib.hid (HI.out.since.trans (b5.mono HI.out.grown))
        have Z5 : Hid (w.heap.size ≤ w5.heap.size) := Lib.hid B5.out.size
        clear b5 HD
        cases off with
        | false =>
          cases x with
          | none =>
            have HR := Lib.hid (L5.out.ret Z5.out (G.read [102] a F' _ w5 (by decide) L5.out.d (fit_one none _ false (by simp [wholeX]) Hf.out.1 Hf.out.2)))
            rw [read_no] at HR
            have Hw : Hid (catL (l.take (min i u)) = []) := Lib.hid HI.out.all.symm
            rw [Hw.out]
            clear ec hcl
            go_wp2_with fail
            refine HR.out.mono ?_
            rintro e w6 ⟨rfl, F6, l6, b6, z6⟩
            have B6 := Lib.hid (B5.out.trans b6)
            clear l6 b6 z6 HR
            go_wp2
            go_ret
            exact ⟨by simp, B6.out⟩
          | some y =>
            have Hw : Hid (y.1 ++ y.2 = catL (l.take (min i u))) := Lib.hid HI.out.all
            have HR := Lib.hid (L5.out.ret Z5.out (G.read [102] a F' _ w5 (by decide) L5.out.d (fit_one _ _ false (by rw [HI.out.all]; omega) Hf.out.1 Hf.out.2)))
            rw [read_one, Hw.out] at HR
            go_wp2_with fail
            refine HR.out.mono ?_
            rintro e w6 ⟨rfl, F6, l6, b6, z6⟩
            have B6 := Lib.hid (B5.out.trans b6)
            clear l6 b6 z6 HR
            go_wp2
            go_ret
            exact ⟨by simp, B6.out⟩
        | true =>
          obtain ⟨m, hm⟩ : ∃ m, m = (catL (l.take (min i u))).length := ⟨_, rfl⟩
          rw [← hm] at ec hcl
          have Hm := Lib.hid hm
          have hal := (Below.refl w5.heap.size w5).alloc (Nat.le_refl _) (.cells #[.int .i64 m] 3)
          have L6 := Lib.hid (L5.out.below hal)
          have B6 := Lib.hid (B5.out.trans (hal.mono Z5.out))
          have Z6 : Hid (w.heap.size ≤ (w5.alloc (.cells #[.int .i64 m] 3)).heap.size) := Lib.hid (Nat.le_trans Z5.out hal.size)
          have HC := Lib.hid (L6.out.ret Z6.out (G.crash [(m : Int)] (some ⟨w5.heap.size, 0, none⟩) 1 1 a F' _ _ L6.out.d (fit_one x _ true (by rw [HI.out.all]; omega) Hf.out.1 Hf.out.2) rfl (row_new w5 #[.int .i64 m] 3) (fun g off e _ hF => by injection e with e; injection e with e; have h1 := G.foot L5.out.d _ hF; omega) (by intro z hz; simp at hz; subst hz; unfold I64; omega) (by omega)))
          clear hm hal
          go_wp2_with fail
          refine HC.out.mono ?_
          rintro e w7 ⟨rfl, F7, l7, b7, z7⟩
          have B7 := Lib.hid (B6.out.trans b7)
          have Z7 := Lib.hid z7
          clear HC b7 z7
          cases x with
          | none =>
            rw [crash_no] at l7
            have L7 := Lib.hid l7
            have HR := Lib.hid (L7.out.ret Z7.out (G.read [102] a F7 _ w7 (by decide) L7.out.d (fit_one none _ false (by simp [wholeX]) (by omega) (by omega))))
            rw [read_no] at HR
            have Hw : Hid (catL (l.take (min i u)) = []) := Lib.hid HI.out.all.symm
            rw [Hw.out]
            clear ec hcl l7
            go_wp2_with fail
            refine HR.out.mono ?_
            rintro e w8 ⟨rfl, F8, l8, b8, z8⟩
            have B8 := Lib.hid (B7.out.trans b8)
            clear l8 b8 z8 HR
            go_wp2
            go_ret
            exact ⟨by simp, B8.out⟩
          | some y =>
            have hy := HI.out.late y rfl
            have hw : y.2 = catL (l.take (min i u)) := by have := HI.out.all; rw [wholeX, hy] at this; exact this
            rw [crash_one, hy, hw, ← Hm.out, keep_all m (by omega), Hm.out, List.take_length] at l7
            have L7 := Lib.hid l7
            have HR := Lib.hid (L7.out.ret Z7.out (G.read [102] a F7 _ w7 (by decide) L7.out.d (fit_one _ _ false (by simp only [wholeX, List.nil_append, List.append_nil]; rw [← Hm.out]; omega) (by omega) (by omega))))
            rw [read_one, List.append_nil, List.nil_append] at HR
            clear hy hw l7
            go_wp2_with fail
            refine HR.out.mono ?_
            rintro e w8 ⟨rfl, F8, l8, b8, z8⟩
            have B8 := Lib.hid (B7.out.trans b8)
            clear l8 b8 z8 HR
            go_wp2
            go_ret
            exact ⟨by simp, B8.out⟩
      · clear hlt
        go_wp2_with fail
        refine HD.out.mono ?_
        rintro e w5 ⟨rfl, b5⟩
        have L5 := Lib.hid (HI.out.lone.below b5)
        have B5 := Lib.hid (HI.out.since.trans (b5.mono HI.out.grown))
        have Z5 : Hid (w.heap.size ≤ w5.heap.size) := Lib.hid B5.out.size
        clear b5 HD
        cases off with
        | false =>
          cases x with
          | none =>
            have HR := Lib.hid (L5.out.ret Z5.out (G.read [102] a F' _ w5 (by decide) L5.out.d (fit_one none _ false (by simp [wholeX]) Hf.out.1 Hf.out.2)))
            rw [read_no] at HR
            have Hw : Hid (catL (l.take (min i u)) = []) := Lib.hid HI.out.all.symm
            rw [Hw.out]
            clear ec hcl
            go_wp2_with fail
            refine HR.out.mono ?_
            rintro e w6 ⟨rfl, F6, l6, b6, z6⟩
            have B6 := Lib.hid (B5.out.trans b6)
            clear l6 b6 z6 HR
            go_wp2
            go_ret
            exact ⟨by simp, B6.out⟩
          | some y =>
            have Hw : Hid (y.1 ++ y.2 = catL (l.take (min i u))) := Lib.hid HI.out.all
            have HR := Lib.hid (L5.out.ret Z5.out (G.read [102] a F' _ w5 (by decide) L5.out.d (fit_one _ _ false (by rw [HI.out.all]; omega) Hf.out.1 Hf.out.2)))
            rw [read_one, Hw.out] at HR
            go_wp2_with fail
            refine HR.out.mono ?_
            rintro e w6 ⟨rfl, F6, l6, b6, z6⟩
            have B6 := Lib.hid (B5.out.trans b6)
            clear l6 b6 z6 HR
            go_wp2
            go_ret
            exact ⟨by simp, B6.out⟩
        | true =>
          obtain ⟨m, hm⟩ : ∃ m, m = (catL (l.take (min i u))).length := ⟨_, rfl⟩
          rw [← hm] at ec hcl
          have Hm := Lib.hid hm
          have hal := (Below.refl w5.heap.size w5).alloc (Nat.le_refl _) (.cells #[.int .i64 m] 3)
          have L6 := Lib.hid (L5.out.below hal)
          have B6 := Lib.hid (B5.out.trans (hal.mono Z5.out))
          have Z6 : Hid (w.heap.size ≤ (w5.alloc (.cells #[.int .i64 m] 3)).heap.size) := Lib.hid (Nat.le_trans Z5.out hal.size)
          have HC := Lib.hid (L6.out.ret Z6.out (G.crash [(m : Int)] (some ⟨w5.heap.size, 0, none⟩) 1 1 a F' _ _ L6.out.d (fit_one x _ true (by rw [HI.out.all]; omega) Hf.out.1 Hf.out.2) rfl (row_new w5 #[.int .i64 m] 3) (fun g off e _ hF => by injection e with e; injection e with e; have h1 := G.foot L5.out.d _ hF; omega) (by intro z hz; simp at hz; subst hz; unfold I64; omega) (by omega)))
          clear hm hal
          go_wp2_with fail
          refine HC.out.mono ?_
          rintro e w7 ⟨rfl, F7, l7, b7, z7⟩
          have B7 := Lib.hid (B6.out.trans b7)
          have Z7 := Lib.hid z7
          clear HC b7 z7
          cases x with
          | none =>
            rw [crash_no] at l7
            have L7 := Lib.hid l7
            have HR := Lib.hid (L7.out.ret Z7.out (G.read [102] a F7 _ w7 (by decide) L7.out.d (fit_one none _ false (by simp [wholeX]) (by omega) (by omega))))
            rw [read_no] at HR
            have Hw : Hid (catL (l.take (min i u)) = []) := Lib.hid HI.out.all.symm
            rw [Hw.out]
            clear ec hcl l7
            go_wp2_with fail
            refine HR.out.mono ?_
            rintro e w8 ⟨rfl, F8, l8, b8, z8⟩
            have B8 := Lib.hid (B7.out.trans b8)
            clear l8 b8 z8 HR
            go_wp2
            go_ret
            exact ⟨by simp, B8.out⟩
          | some y =>
            have hy := HI.out.late y rfl
            have hw : y.2 = catL (l.take (min i u)) := by have := HI.out.all; rw [wholeX, hy] at this; exact this
            rw [crash_one, hy, hw, ← Hm.out, keep_all m (by omega), Hm.out, List.take_length] at l7
            have L7 := Lib.hid l7
            have HR := Lib.hid (L7.out.ret Z7.out (G.read [102] a F7 _ w7 (by decide) L7.out.d (fit_one _ _ false (by simp only [wholeX, List.nil_append, List.append_nil]; rw [← Hm.out]; omega) (by omega) (by omega))))
            rw [read_one, List.append_nil, List.nil_append] at HR
            clear hy hw l7
            go_wp2_with fail
            refine HR.out.mono ?_
            rintro e w8 ⟨rfl, F8, l8, b8, z8⟩
            have B8 := Lib.hid (B7.out.trans b8)
            clear l8 b8 z8 HR
            go_wp2
            go_ret
            exact ⟨by simp, B8.out⟩
end Go.Proofs.Ytbgfkjafablfiaa
