/-
  DiskKeeps, from what it asks of the program's own disk.
-/
import Derived.Test.YtbgfkjafablfiaaTQ
namespace Go.Proofs.Ytbgfkjafablfiaa
open Go.RowKit

def boolC (l : List Bool) : List Value := l.map fun b => .bool b
theorem row_bool {w : World} {A : Option Addr} {l : List Bool} (h : RowAt w A (boolC l)) (i : Nat) (s : Bool) (hs : l[i]? = some s) :
    ∃ b off, A = some (⟨b, off, none⟩ : Addr) ∧ b < w.heap.size ∧ w.cell? ⟨b, off + i, none⟩ = some (.bool s) := h _ _ (by simp [boolC, hs])

def sureX : Ox → List UInt8
  | none => []
  | some y => y.1
theorem sure_more {b : List UInt8} {x : Ox} {y : List UInt8 × List UInt8} (h : moreX b x = some y) : sureX x = y.1 := by
  cases x with
  | none => simp only [moreX, Option.some.injEq] at h; rw [← h]; rfl
  | some z => simp only [moreX, Option.some.injEq] at h; rw [← h]; rfl
theorem append_free (b : List UInt8) (x : Ox) (h : (wholeX x).length + b.length ≤ 8388608) : appendS [102] b (discX x (-1) false) = (0, discX (moreX b x) (-1) false) := by
  rw [append_one b x (-1) h, if_neg (by omega), if_neg (by omega)]
theorem more_some (b : List UInt8) (x : Ox) : moreX b x = some ((moreX b x).getD ([], [])) := by cases x <;> rfl
/-- The law's loop: the disk, what was synced, all. -/
structure KeepI (G : GoodD) (w : World) (a : Addr) (l : List (List UInt8)) (i : Nat) (F : Nat → Prop) (x : Ox) (sure : List UInt8) (wr : World) : Prop where
  lone : Lone G w.heap.size wr a F (discX x (-1) false)
  since : Below w.heap.size w wr
  all : wholeX x = catL (l.take i)
  size : (catL (l.take i)).length ≤ 1000 * i
  sure : sure = sureX x
  none : x = none ↔ i = 0
theorem KeepI.grown {G : GoodD} {w : World} {a : Addr} {l : List (List UInt8)} {i : Nat} {F : Nat → Prop} {x : Ox} {sure : List UInt8} {wr : World} (h : KeepI G w a l i F x sure wr) : w.heap.size ≤ wr.heap.size := h.since.size

set_option maxRecDepth 100000 in
set_option maxHeartbeats 4000000 in
theorem keeps_law (G : GoodD) (l : List (List UInt8)) (A : Option Addr) (n cap : Nat) (m : List Bool) (A2 : Option Addr) (n2 cap2 : Nat) (keep : List Int) (A3 : Option Addr) (kl kc : Nat) (w : World)
    (hn : l.length = n) (hr : RowAt w A (strC l)) (hn1 : n ≤ 9223372036854775807) (hn2 : m.length = n2) (hr2 : RowAt w A2 (boolC m)) (hk : keep.length = kl) (hr3 : RowAt w A3 (intC keep)) (hki : ∀ x ∈ keep, I64 x) (hk2 : kl ≤ 9223372036854775807) (hls : ∀ s ∈ l, s.length ≤ 9223372036854775807) :
    Calls Try.prog 4 #[.slice A n cap, .slice A2 n2 cap2, .slice A3 kl kc] w (Laws w) := by
  have Hn := Lib.hid hn
  have Hr := Lib.hid hr
  have Hn2 := Lib.hid hn2
  have Hr2 := Lib.hid hr2
  have Hk := Lib.hid (And.intro hk hki)
  have Hr3 := Lib.hid hr3
  have Hls := Lib.hid hls
  clear hn hr hn2 hr2 hk hr3 hki hls
  have HA := Lib.hid (awake_any G w)
  have sf : ({ data := #[102] } : ByteArray) = bs [102] := by rw [bs_eq]
  have HN := Lib.hid (fun W => G.new 8388608 W (by omega) (by omega))
  go_enter Try.func4, Try.ntmps4
  go_wp2_with fail
  refine HA.out.mono ?_
  rintro e w1 ⟨rfl, hb1⟩
  have B1 := Lib.hid hb1
  clear hb1 HA
  go_wp2_with fail
  refine (HN.out w1).mono ?_
  rintro e w2 ⟨a, F, rfl, hd, hF, hb2⟩
  have HI : Hid (KeepI G w a l 0 F none [] w2) := Lib.hid
    ⟨⟨hd, fun k hk => Nat.le_trans B1.out.size (hF k hk)⟩, B1.out.trans (hb2.mono B1.out.size), by simp [catL, wholeX], by simp [catL], rfl, by simp⟩
  clear hd hF hb2 HN B1
  go_wp2_with fail
  go_loopw [9, 10, 11] (fun sv av iv wr => ∃ i : Nat, ∃ F x sure, i ≤ n ∧ i ≤ 100 ∧ iv = .int .i64 i ∧ sv = .string (bs sure) ∧ av = .string (bs (catL (l.take i))) ∧ KeepI G w a l i F x sure wr) (fun _ _ iv _ => n - (intOf iv).toNat)
  case atStart => exact ⟨0, F, none, [], Nat.zero_le _, Nat.zero_le _, rfl, by rw [bs_eq], by rw [bs_eq]; simp [catL], HI.out⟩
  case round =>
    clear HI
    obtain ⟨i, F', x, sure, hi, hi2, rfl, rfl, rfl, hI⟩ := hrel
    have HI := Lib.hid hI
    clear hI
    by_cases hlt : i < n ∧ i < 100
    · obtain ⟨hlt, hl2⟩ := hlt
      have hltz : (i : Int) < (n : Int) := by omega
      have hltz2 : (i : Int) < (100 : Int) := by omega
      obtain ⟨b, hb⟩ : ∃ b, l[i]? = some b := ⟨_, List.getElem?_eq_getElem (by rw [Hn.out]; exact hlt)⟩
      have hbl := Hls.out b (List.mem_of_getElem? hb)
      obtain ⟨g, off, rfl, hg, hc⟩ := row_str (Hr.out.below HI.out.since (Nat.le_refl _)) i b hb
      have eb : (bs b).size = b.length := bs_size _
      have Hcat := Lib.hid (cat_next hb)
      have Hcw : Hid (∀ W, Below w.heap.size w W → W.cell? ⟨g, off + i, none⟩ = some (.string (bs b))) := Lib.hid (fun W hW => by
        obtain ⟨b', off', e1, h1, h2⟩ := row_str Hr.out i b hb
        injection e1 with e1
        injection e1 with e1 e2
        subst e1
        subst e2
        exact (hW.cell h1).trans h2)
      have ec : (bs (catL (l.take i))).size = (catL (l.take i)).length := bs_size _
      have hcl : (catL (l.take i)).length ≤ 100000 := by have := HI.out.size; omega
      clear hb
      by_cases hbig : b.length ≤ 1000
      · have hbz : ¬ (1000 : Int) < (b.length : Int) := by omega
        have HP := Lib.hid (HI.out.lone.ret HI.out.grown (G.append [102] b a F' _ wr HI.out.lone.d (fit_one x (-1) false (by rw [HI.out.all]; omega) (by omega) (by omega)) (by decide) (by omega)))
        rw [append_free b x (by rw [HI.out.all]; omega)] at HP
        go_wp2_with fail
        refine HP.out.mono ?_
        rintro e w5 ⟨rfl, F5, l5, b5, z5⟩
        have L5 := Lib.hid l5
        have B5 := Lib.hid (HI.out.since.trans b5)
        have Z5 := Lib.hid z5
        clear l5 b5 z5 HP hc
        have hc := Hcw.out _ B5.out
        have Hap : Hid (bs (catL (l.take i)) ++ bs b = bs (catL (l.take (i + 1)))) := Lib.hid (by rw [bs_append, Hcat.out])
        obtain ⟨y, hy⟩ : ∃ y, moreX b x = some y := ⟨_, more_some b x⟩
        rw [hy] at L5
        have Hy := Lib.hid hy
        have Hwy : Hid (wholeX (some y) = catL (l.take (i + 1))) := Lib.hid (by rw [← hy, whole_more, HI.out.all, Hcat.out])
        have Hsy : Hid (sure = y.1) := Lib.hid (HI.out.sure.trans (sure_more hy))
        have Hsz : Hid ((catL (l.take (i + 1))).length ≤ 1000 * (i + 1)) := Lib.hid (by rw [Hcat.out, List.length_append]; have := HI.out.size; omega)
        clear hy
        by_cases hs : ∃ q, m[i]? = some q ∧ q = true
        · obtain ⟨q, hq, rfl⟩ := hs
          obtain ⟨g2, off2, rfl, hg2, hc2⟩ := row_bool (Hr2.out.below B5.out (Nat.le_refl _)) i true hq
          have hi2z : (i : Int) < (n2 : Int) := by
            have := (List.getElem?_eq_some_iff.1 hq).1
            rw [Hn2.out] at this; omega
          have HS := Lib.hid (L5.out.ret Z5.out (G.sync [102] a F5 _ w5 (by decide) L5.out.d (fit_one (some y) (-1) false (by rw [Hwy.out]; have := Hsz.out; omega) (by omega) (by omega))))
          rw [sync_one y] at HS
          clear hq
          go_wp2_with fail
          refine HS.out.mono ?_
          rintro e w6 ⟨rfl, F6, l6, b6, z6⟩
          have L6 := Lib.hid l6
          have B6 := Lib.hid (B5.out.trans b6)
          clear l6 b6 z6 HS
          go_wp2
          go_roundw
          case rel =>
            refine ⟨i + 1, F6, some (y.1 ++ y.2, []), y.1 ++ y.2, by omega, by omega, by go_num, ?_, ?_, L6.out, B6.out, ?_, Hsz.out, rfl, by simp⟩
            · rw [Hap.out, ← Hwy.out]; rfl
            · rw [Hap.out]
            · rw [← Hwy.out]; simp [wholeX]
          case measure => simp [intOf]; omega
        · have Hno := Lib.hid hs
          clear hs
          by_cases hlm : i < n2
          · have hi2z : (i : Int) < (n2 : Int) := by omega
            obtain ⟨q, hq⟩ : ∃ q, m[i]? = some q := ⟨_, List.getElem?_eq_getElem (by rw [Hn2.out]; exact hlm)⟩
            obtain rfl : q = false := by
              cases q with
              | false => rfl
              | true => exact absurd ⟨true, hq, rfl⟩ Hno.out
            obtain ⟨g2, off2, rfl, hg2, hc2⟩ := row_bool (Hr2.out.below B5.out (Nat.le_refl _)) i false hq
            clear hq
            go_wp2
            go_roundw
            case rel =>
              refine ⟨i + 1, F5, some y, sure, by omega, by omega, by go_num, rfl, ?_, L5.out, B5.out, Hwy.out, Hsz.out, Hsy.out, by simp⟩
              rw [Hap.out]
            case measure => simp [intOf]; omega
          · have hi2z : ¬ (i : Int) < (n2 : Int) := by omega
            go_wp2
            go_roundw
            case rel =>
              refine ⟨i + 1, F5, some y, sure, by omega, by omega, by go_num, rfl, ?_, L5.out, B5.out, Hwy.out, Hsz.out, Hsy.out, by simp⟩
              rw [Hap.out]
            case measure => simp [intOf]; omega
      · have hbz : (1000 : Int) < (b.length : Int) := by omega
        go_wp2
        go_ret
        exact ⟨rfl, HI.out.since⟩
    · have Hcut : Hid (i = n ∨ i = 100) := Lib.hid (by omega)
      have hcl : (catL (l.take i)).length ≤ 100000 := by have := HI.out.size; omega
      have Hr5 := Lib.hid (Hr3.out.below HI.out.since (Nat.le_refl _))
      have HC := Lib.hid (HI.out.lone.ret HI.out.grown (G.crash keep A3 kl kc a F' _ wr HI.out.lone.d (fit_one x (-1) false (by rw [HI.out.all]; omega) (by omega) (by omega)) Hk.out.1 Hr5.out (fun g off e h0 hF => by
        obtain ⟨b', off', e', hl', _⟩ := Hr3.out 0 _ (intC_at keep 0 _ (List.getElem?_eq_getElem (by rw [Hk.out.1]; exact h0)))
        rw [e] at e'
        injection e' with e'
        injection e' with e'
        have h1 := HI.out.lone.base _ hF
        omega) Hk.out.2 hk2))
      by_cases h5 : (i : Int) < (n : Int)
      · have h6 : ¬ (i : Int) < 100 := by have := Hcut.out; omega
        clear hlt
        go_wp2_with fail
        refine HC.out.mono ?_
        rintro e w7 ⟨rfl, F7, l7, b7, z7⟩
        have B7 := Lib.hid (HI.out.since.trans b7)
        clear HC
        cases x with
        | none =>
          have hi0 := HI.out.none.1 rfl
          have hn0 : n = 0 := by have := Hcut.out; omega
          subst hn0
          rw [crash_no] at l7
          have L7 := Lib.hid l7
          have Z7 := Lib.hid z7
          have HR := Lib.hid (L7.out.ret Z7.out (G.read [102] a F7 _ w7 (by decide) L7.out.d (fit_one none (-1) false (by simp [wholeX]) (by omega) (by omega))))
          rw [read_no] at HR
          clear l7 z7 b7 hi0
          go_wp2_with fail
          refine HR.out.mono ?_
          rintro e w8 ⟨rfl, F8, l8, b8, z8⟩
          have B8 := Lib.hid (B7.out.trans b8)
          clear l8 z8 b8 HR
          go_wp2
          go_ret
          exact ⟨rfl, B8.out⟩
        | some y =>
          have hi0 : i ≠ 0 := fun e => by have := HI.out.none.2 e; cases this
          have hnz : ¬ (n : Int) = 0 := by omega
          rw [crash_one] at l7
          have Hall : Hid (y.1 ++ y.2 = catL (l.take i)) := Lib.hid HI.out.all
          have Hsu : Hid (sure = y.1) := Lib.hid HI.out.sure
          have L7 := Lib.hid l7
          have Z7 := Lib.hid z7
          have HR := Lib.hid (L7.out.ret Z7.out (G.read [102] a F7 _ w7 (by decide) L7.out.d (fit_one _ (-1) false (by
            have h1 := congrArg List.length Hall.out
            simp only [wholeX, List.length_append, List.length_take, List.length_nil] at h1 ⊢
            omega) (by omega) (by omega))))
          rw [read_one] at HR
          obtain ⟨S, hS⟩ : ∃ S, S = y.1 ++ y.2.take (keepN keep 0 y.2.length) ++ [] := ⟨_, rfl⟩
          simp only [← hS] at HR
          have h1 := congrArg List.length Hall.out
          have h2 := congrArg List.length hS
          simp only [List.length_append, List.length_take, List.length_nil] at h1 h2
          have es : (bs S).size = S.length := bs_size _
          have eu : (bs sure).size = y.1.length := by rw [bs_size, Hsu.out]
          have ea : (bs (catL (l.take i))).size = y.1.length + y.2.length := by rw [bs_size, ← h1]
          have hle1 : (y.1.length : Int) ≤ (S.length : Int) := by omega
          have hle2 : (S.length : Int) ≤ (y.1.length : Int) + (y.2.length : Int) := by omega
          have hle3 : S.length ≤ y.1.length + y.2.length := by omega
          have ex : (bs (catL (l.take i))).extract 0 S.length = bs S := by
            rw [bs_extract, ← Hall.out, List.drop_zero, Nat.sub_zero]
            congr 1
            rw [List.take_append, h2, List.take_of_length_le (by omega), hS, List.append_nil]
            congr 1
            rw [show y.1.length + min (keepN keep 0 y.2.length) y.2.length + 0 - y.1.length = min (keepN keep 0 y.2.length) y.2.length by omega]
            by_cases hk : keepN keep 0 y.2.length ≤ y.2.length
            · rw [Nat.min_eq_left hk]
            · rw [Nat.min_eq_right (by omega), List.take_of_length_le (Nat.le_refl _), List.take_of_length_le (by omega)]
          clear l7 z7 b7 hi0 h1 h2 hS
          go_wp2_with fail
          refine HR.out.mono ?_
          rintro e w8 ⟨rfl, F8, l8, b8, z8⟩
          have B8 := Lib.hid (B7.out.trans b8)
          clear l8 z8 b8 HR
          go_wp2
          go_ret
          exact ⟨by simp, B8.out⟩
      · clear hlt
        go_wp2_with fail
        refine HC.out.mono ?_
        rintro e w7 ⟨rfl, F7, l7, b7, z7⟩
        have B7 := Lib.hid (HI.out.since.trans b7)
        clear HC
        cases x with
        | none =>
          have hi0 := HI.out.none.1 rfl
          have hn0 : n = 0 := by have := Hcut.out; omega
          subst hn0
          rw [crash_no] at l7
          have L7 := Lib.hid l7
          have Z7 := Lib.hid z7
          have HR := Lib.hid (L7.out.ret Z7.out (G.read [102] a F7 _ w7 (by decide) L7.out.d (fit_one none (-1) false (by simp [wholeX]) (by omega) (by omega))))
          rw [read_no] at HR
          clear l7 z7 b7 hi0
          go_wp2_with fail
          refine HR.out.mono ?_
          rintro e w8 ⟨rfl, F8, l8, b8, z8⟩
          have B8 := Lib.hid (B7.out.trans b8)
          clear l8 z8 b8 HR
          go_wp2
          go_ret
          exact ⟨rfl, B8.out⟩
        | some y =>
          have hi0 : i ≠ 0 := fun e => by have := HI.out.none.2 e; cases this
          have hnz : ¬ (n : Int) = 0 := by omega
          rw [crash_one] at l7
          have Hall : Hid (y.1 ++ y.2 = catL (l.take i)) := Lib.hid HI.out.all
          have Hsu : Hid (sure = y.1) := Lib.hid HI.out.sure
          have L7 := Lib.hid l7
          have Z7 := Lib.hid z7
          have HR := Lib.hid (L7.out.ret Z7.out (G.read [102] a F7 _ w7 (by decide) L7.out.d (fit_one _ (-1) false (by
            have h1 := congrArg List.length Hall.out
            simp only [wholeX, List.length_append, List.length_take, List.length_nil] at h1 ⊢
            omega) (by omega) (by omega))))
          rw [read_one] at HR
          obtain ⟨S, hS⟩ : ∃ S, S = y.1 ++ y.2.take (keepN keep 0 y.2.length) ++ [] := ⟨_, rfl⟩
          simp only [← hS] at HR
          have h1 := congrArg List.length Hall.out
          have h2 := congrArg List.length hS
          simp only [List.length_append, List.length_take, List.length_nil] at h1 h2
          have es : (bs S).size = S.length := bs_size _
          have eu : (bs sure).size = y.1.length := by rw [bs_size, Hsu.out]
          have ea : (bs (catL (l.take i))).size = y.1.length + y.2.length := by rw [bs_size, ← h1]
          have hle1 : (y.1.length : Int) ≤ (S.length : Int) := by omega
          have hle2 : (S.length : Int) ≤ (y.1.length : Int) + (y.2.length : Int) := by omega
          have hle3 : S.length ≤ y.1.length + y.2.length := by omega
          have ex : (bs (catL (l.take i))).extract 0 S.length = bs S := by
            rw [bs_extract, ← Hall.out, List.drop_zero, Nat.sub_zero]
            congr 1
            rw [List.take_append, h2, List.take_of_length_le (by omega), hS, List.append_nil]
            congr 1
            rw [show y.1.length + min (keepN keep 0 y.2.length) y.2.length + 0 - y.1.length = min (keepN keep 0 y.2.length) y.2.length by omega]
            by_cases hk : keepN keep 0 y.2.length ≤ y.2.length
            · rw [Nat.min_eq_left hk]
            · rw [Nat.min_eq_right (by omega), List.take_of_length_le (Nat.le_refl _), List.take_of_length_le (by omega)]
          clear l7 z7 b7 hi0 h1 h2 hS
          go_wp2_with fail
          refine HR.out.mono ?_
          rintro e w8 ⟨rfl, F8, l8, b8, z8⟩
          have B8 := Lib.hid (B7.out.trans b8)
          clear l8 z8 b8 HR
          go_wp2
          go_ret
          exact ⟨by simp, B8.out⟩
end Go.Proofs.Ytbgfkjafablfiaa
