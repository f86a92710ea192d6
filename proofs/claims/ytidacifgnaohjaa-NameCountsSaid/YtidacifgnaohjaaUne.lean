/-
  The contract of name's unescaped.
-/
import Derived.Test.YtidacifgnaohjaaUns
namespace Go.Proofs.Ytidacifgnaohjaa
open Go.RowKit

theorem Bld.below {B b : Nat} {l : List UInt8} {w w' : World} (h : Bld B b l w) (hb : Below w.heap.size w w') : Bld B b l w' := by
  have one : ∀ p, Lib.BuilderAtF 34 5 B b p (Lib.byteCells l) w → Lib.BuilderAtF 34 5 B b p (Lib.byteCells l) w' := fun p h => by
    have hlt := h.lt
    obtain ⟨hB, v, hbk, hown, hne⟩ := h
    refine ⟨hB, v, (hb.block b hlt).trans hbk, ⟨hown.1, ?_⟩, hne⟩
    rcases hown.2 with hn | ⟨g, cap, cur, fz, hv, hbg, hg, r⟩
    · exact .inl hn
    · exact .inr ⟨g, cap, cur, fz, hv, hbg, (hb.block g (Array.getElem?_eq_some_iff.1 hg).1).trans hg, r⟩
  exact h.elim (fun x => .inl (one _ x)) (fun x => .inr (one _ x))
theorem told_valid (r : List UInt8) : toldL r < 55296 ∨ (57343 < toldL r ∧ toldL r ≤ 1114111) := by
  unfold toldL
  by_cases hs : sizeL r = 0
  · rw [if_pos hs]; omega
  · rw [if_neg hs]
    have h4 := sizeL_le4 r
    have : sizeL r = 1 ∨ sizeL r = 2 ∨ sizeL r = 3 ∨ sizeL r = 4 := by omega
    rcases this with g | g | g | g
    · have := codeL_one g; omega
    · have := codeL_two g; omega
    · have := codeL_three g; omega
    · have := codeL_four g; omega
theorem hexI_cases (r : Nat) : hexI r = -1 ∨ ∃ d : Nat, d < 16 ∧ hexI r = (d : Int) := by
  unfold hexI
  by_cases h1 : 48 ≤ r ∧ r ≤ 57
  · rw [if_pos h1]; exact .inr ⟨r - 48, by omega, by omega⟩
  · rw [if_neg h1]
    by_cases h2 : 97 ≤ r ∧ r ≤ 102
    · rw [if_pos h2]; exact .inr ⟨r - 87, by omega, by omega⟩
    · rw [if_neg h2]; exact .inl rfl

theorem or_hex : ∀ c : Nat, c < 16 → ∀ d : Nat, d < 16 → bits BinOp.or IntKind.i64 ((c : Int) * 16) (d : Int) = ((c * 16 + d : Nat) : Int) := by decide +kernel

/-- What unescaped tells. -/
def UneGot (s : ByteArray) (w : World) (e : Ending) (w' : World) : Prop :=
  (∃ t ok, e = .returned (.tuple #[.string t, .bool ok]) ∧ ((ok = true ∧ unS (piecesL (bl s)) 0 0 = some (bl t) ∧ t.size ≤ s.size) ∨ (ok = false ∧ unS (piecesL (bl s)) 0 0 = none))) ∧ Below w.heap.size w w'

set_option maxRecDepth 100000 in
set_option maxHeartbeats 2000000 in
theorem unescaped_any (s : ByteArray) (w : World) (hs : s.size ≤ 100000) : Calls Try.prog 26 #[.string s] w (UneGot s w) := by
  have H0 : Hid (unS (piecesL (bl s)) 0 0 = unF [] ((bl s).drop 0) 0 0) := Lib.hid (by rw [List.drop_zero, unF_0])
  have Hf := Lib.hid (Bld.fresh w)
  have hdig : Hid (({ data := #[48, 49, 50, 51, 52, 53, 54, 55, 56, 57, 97, 98, 99, 100, 101, 102] } : ByteArray) = digS) := Lib.hid rfl
  go_enter Try.func26, Try.ntmps26
  go_wp2
  go_loopw [5, 6] (fun cv mv wr => ∃ k c m : Nat, ∃ o : List UInt8, k ≤ s.size ∧ o.length ≤ k ∧ m ≤ 2 ∧ (m = 2 → c = 0) ∧ (m = 1 → c < 16) ∧ c < 256 ∧ cv = .int .i64 (c : Int) ∧ mv = .int .i64 (m : Int) ∧ wr.heap[w.heap.size + 1]? = some (.stringIter s k) ∧ Bld w.heap.size w.heap.size o wr ∧ Below w.heap.size w wr ∧ unS (piecesL (bl s)) 0 0 = unF o ((bl s).drop k) c m) (fun _ _ wr => s.size - wr.iterPos (w.heap.size + 1))
  case atStart =>
    exact ⟨0, 0, 0, [], by omega, by simp, by omega, by omega, by omega, by omega, rfl, rfl, by rw [show w.heap.size + 1 = (w.alloc (.cells #[.pointer none, .slice none 0 0] 34)).heap.size by simp]; exact World.iter_heap _ s 0, Hf.out.alloc _, ((Below.refl _ _).alloc (Nat.le_refl _) _).alloc (by simp) _, H0.out⟩
  case round =>
    obtain ⟨k, c, m, o, hk, hol, hm2, hc2, hc1, hc0, rfl, rfl, hit, hbl, hb, hun⟩ := hrel
    have Hun := Lib.hid hun
    have Hb := Lib.hid hb
    have Hbl := Lib.hid hbl
    have Hc2 := Lib.hid hc2
    have Hc1 := Lib.hid hc1
    have hszw : w.heap.size + 1 < wr.heap.size := (Array.getElem?_eq_some_iff.1 hit).1
    clear hun hb hbl H0 hc2 hc1
    by_cases hlt : k < s.size
    · have hnx : ∀ ty, (Instr.next (.pointer (some ⟨w.heap.size + 1, 0, none⟩)) true ty).run Try.prog wr = _ := fun ty => Lib.run_next_any_at wr (w.heap.size + 1) s k ty hit hlt
      have Hn : Hid (((bl s).drop k).length = s.size - k) := Lib.hid (by rw [List.length_drop, bl_length])
      have Hne : Hid ((bl s).drop k ≠ []) := Lib.hid (fun e => by have := Hn.out; rw [e] at this; simp at this; omega)
      have hw1 := widthL_pos ((bl s).drop k)
      have hw2 : widthL ((bl s).drop k) ≤ s.size - k := by have := widthL_le _ Hne.out; rw [Hn.out] at this; exact this
      have htl := told_lt ((bl s).drop k)
      have Htv := Lib.hid (told_valid ((bl s).drop k))
      have Hshn := Lib.hid (fun W => shown_any (toldL ((bl s).drop k)) W htl)
      have Hix := Lib.hid (fun W => index_any (toldL ((bl s).drop k)) W Htv.out)
      have Hbr := Lib.hid (broken_any (s.extract k s.size))
      rw [bl_rest] at Hbr
      have Hhexno := Lib.hid (unF_hexno o ((bl s).drop k) c m Hne.out)
      have Hhex2 := Lib.hid (fun d => unF_hex2 o ((bl s).drop k) c m d Hne.out)
      have Hhex1 := Lib.hid (fun d => unF_hex1 o ((bl s).drop k) c d Hne.out)
      have Hslash := Lib.hid (unF_slash o ((bl s).drop k) c Hne.out)
      have Hno := Lib.hid (unF_no o ((bl s).drop k) c Hne.out)
      have Hself := Lib.hid (unF_self o ((bl s).drop k) c Hne.out)
      rw [List.drop_drop] at Hslash Hself
      simp only [List.drop_drop] at Hhex2 Hhex1
      have Hwh := Lib.hid (whole_told ((bl s).drop k))
      have Hct := Lib.hid (code_take ((bl s).drop k))
      have Hwz : Hid (widthL ((bl s).drop k) = max 1 (sizeL ((bl s).drop k))) := Lib.hid rfl
      have hz4 := sizeL_le4 ((bl s).drop k)
      simp only [decode_told s k hlt] at hnx
      generalize widthL ((bl s).drop k) = wd at *
      generalize toldL ((bl s).drop k) = r at *
      have Hit2 := Lib.hid (Lib.iterAt_heap wr (w.heap.size + 1) s k (k + wd) hit)
      have Hb2 := Lib.hid (Lib.below_iterAt Hb.out (k := w.heap.size + 1) (by omega) s (k + wd))
      have Hbl2 := Lib.hid (Hbl.out.iterAt hit (k + wd))
      have Hsz2 : Hid (w.heap.size ≤ (wr.iterAt (w.heap.size + 1) s (k + wd)).heap.size) := Lib.hid (by rw [Lib.iterAt_size]; omega)
      have hol2 : o.length ≤ 300000 := by omega
      have hkb : Hid (w.heap.size + 1 ≠ w.heap.size) := Lib.hid (by omega)
      clear Hb Hbl
      by_cases hm0 : m = 0
      · subst hm0
        by_cases h92 : r = 92
        · have Hst : Hid (unS (piecesL (bl s)) 0 0 = unF o ((bl s).drop (k + wd)) 0 2) := Lib.hid (by rw [Hun.out, Hslash.out h92])
          have g92 : ((r : Int) == 92) = true := by simp; omega
          clear Hhexno Hhex2 Hhex1 Hslash Hno Hself Hwh Hct Hwz h92
          go_wp2
          go_roundw
          case rel => exact ⟨k + wd, 0, 2, o, by omega, by omega, by omega, by omega, by omega, by omega, by go_num, by go_num, Hit2.out, Hbl2.out, Hb2.out, Hst.out⟩
          case measure =>
            simp only [World.iterPos, Hit2.out, hit]
            omega
        · have g92 : ((r : Int) == 92) = false := by simp; omega
          by_cases hz : sizeL ((bl s).drop k) = 0
          · have Hv : Hid (unS (piecesL (bl s)) 0 0 = none) := Lib.hid (by rw [Hun.out, Hno.out h92 (.inl hz)])
            rw [decide_eq_true hz] at Hbr
            cases hn : showN r with
            | true =>
              rw [hn] at Hshn
              clear Hhexno Hhex2 Hhex1 Hslash Hno Hself Hwh Hct Hwz h92 hz hn
              go_wp2_with (first | (go_at_call 22; refine (Hshn.out _).mono ?_; rintro e w' ⟨rfl, rfl⟩) | (go_at_call 18; refine (Hbr.out _).mono ?_; rintro e w' ⟨rfl, rfl⟩))
              go_ret2
              exact ⟨⟨_, _, rfl, .inr ⟨rfl, Hv.out⟩⟩, Hb2.out⟩
            | false =>
              rw [hn] at Hshn
              clear Hhexno Hhex2 Hhex1 Hslash Hno Hself Hwh Hct Hwz h92 hz hn
              go_wp2_with (first | (go_at_call 22; refine (Hshn.out _).mono ?_; rintro e w' ⟨rfl, rfl⟩) | (go_at_call 18; refine (Hbr.out _).mono ?_; rintro e w' ⟨rfl, rfl⟩))
              go_ret2
              exact ⟨⟨_, _, rfl, .inr ⟨rfl, Hv.out⟩⟩, Hb2.out⟩
          · have hwz : wd = sizeL ((bl s).drop k) := by have := Hwz.out; omega
            cases hn : showN r with
            | true =>
              have Hst : Hid (unS (piecesL (bl s)) 0 0 = unF (o ++ ((bl s).drop k).take wd) ((bl s).drop (k + wd)) c 0) := Lib.hid (by rw [Hun.out, Hself.out h92 hz hn])
              rw [← hwz] at Hwh Hct
              have hw0 : wd ≠ 0 := by omega
              have Hw := Lib.hid (fun W (hW : Bld w.heap.size w.heap.size o W) hB => wrune_any w.heap.size w.heap.size o (((bl s).drop k).take wd) (Hwh.out hw0) W hW (by omega) hB (by rw [Hct.out hw0]; exact htl))
              rw [Hct.out hw0] at Hw
              rw [hn] at Hshn
              rw [decide_eq_false hz] at Hbr
              have Hlen : Hid ((o ++ ((bl s).drop k).take wd).length ≤ k + wd) := Lib.hid (by rw [List.length_append, List.length_take]; omega)
              clear Hhexno Hhex2 Hhex1 Hslash Hno Hself Hwh Hct Hwz h92 hz hn hwz hw0
              go_wp2_with (first | (go_at_call 22; refine (Hshn.out _).mono ?_; rintro e w' ⟨rfl, rfl⟩) | (go_at_call 18; refine (Hbr.out _).mono ?_; rintro e w' ⟨rfl, rfl⟩) | (go_at_call 23; refine (Hw.out _ Hbl2.out Hsz2.out).mono ?_; rintro e w3 ⟨rfl, h1, h2, h3⟩; replace h1 := Lib.hid h1; replace h2 := Lib.hid h2; replace h3 := Lib.hid (h3.iter _ s _ Hit2.out hkb.out)))
              go_roundw
              case rel => exact ⟨k + wd, c, 0, _, by omega, Hlen.out, by omega, by omega, by omega, by omega, by go_num, by go_num, h3.out, h1.out, Hb2.out.trans h2.out, Hst.out⟩
              case measure =>
                simp only [World.iterPos, h3.out, hit]
                omega
            | false =>
              have Hv : Hid (unS (piecesL (bl s)) 0 0 = none) := Lib.hid (by rw [Hun.out, Hno.out h92 (.inr hn)])
              rw [hn] at Hshn
              rw [decide_eq_false hz] at Hbr
              clear Hhexno Hhex2 Hhex1 Hslash Hno Hself Hwh Hct Hwz h92 hz hn hwz
              go_wp2_with (first | (go_at_call 22; refine (Hshn.out _).mono ?_; rintro e w' ⟨rfl, rfl⟩) | (go_at_call 18; refine (Hbr.out _).mono ?_; rintro e w' ⟨rfl, rfl⟩))
              go_ret2
              exact ⟨⟨_, _, rfl, .inr ⟨rfl, Hv.out⟩⟩, Hb2.out⟩
      · have gm : (0 : Int) < (m : Int) := by omega
        rcases hexI_cases r with hx | ⟨d, hd, hx⟩
        · have Hv : Hid (unS (piecesL (bl s)) 0 0 = none) := Lib.hid (by rw [Hun.out, Hhexno.out (by omega) (by rw [hx]; omega)])
          rw [hx] at Hix
          clear Hhexno Hhex2 Hhex1 Hslash Hno Hself Hwh Hct Hwz hx
          go_wp2_with (first | (go_at_call 33; rw [hdig.out]; refine (Hix.out _).mono ?_; rintro e w3 ⟨rfl, h1⟩; replace h1 := Lib.hid h1))
          go_ret2
          exact ⟨⟨_, _, rfl, .inr ⟨rfl, Hv.out⟩⟩, Hb2.out.trans (h1.out.mono Hsz2.out)⟩
        · rw [hx] at Hix
          have gd : ¬ (d : Int) < 0 := by omega
          have hc16 : c < 16 := by
            have : m = 1 ∨ m = 2 := by omega
            rcases this with h | h
            · exact Hc1.out h
            · have := Hc2.out h; omega
          have hor := or_hex c hc16 d hd
          obtain ⟨e, he⟩ : ∃ e, c * 16 + d = e := ⟨_, rfl⟩
          rw [he] at hor
          have he2 : e < 256 := by omega
          by_cases hm1 : m = 1
          · subst hm1
            have Hst : Hid (unS (piecesL (bl s)) 0 0 = unF (o ++ [UInt8.ofNat e]) ((bl s).drop (k + wd)) e 0) := Lib.hid (by rw [Hun.out, Hhex1.out d hx, he])
            have Hw := Lib.hid (fun W (hW : Bld w.heap.size w.heap.size o W) hB => wbyte_any w.heap.size w.heap.size o (UInt8.ofNat e) W hW (by omega) hB)
            rw [show ((UInt8.ofNat e).toNat : Int) = (e : Int) by rw [UInt8.toNat_ofNat']; omega] at Hw
            have hem : (e : Int) % 256 = (e : Int) := by omega
            have Hlen : Hid ((o ++ [UInt8.ofNat e]).length ≤ k + wd) := Lib.hid (by rw [List.length_append]; simp; omega)
            clear Hhexno Hhex2 Hhex1 Hslash Hno Hself Hwh Hct Hwz hx he
            go_wp2_with (first | (go_at_call 33; rw [hdig.out]; refine (Hix.out _).mono ?_; rintro e w3 ⟨rfl, h1⟩; replace h1 := Lib.hid h1) | (go_at_call 30; refine (Hw.out _ (Hbl2.out.below h1.out) (Nat.le_trans Hsz2.out h1.out.size)).mono ?_; rintro e w4 ⟨rfl, h2, h3, h4⟩; replace h2 := Lib.hid h2; replace h3 := Lib.hid h3; replace h4 := Lib.hid (h4.iter _ s _ ((h1.out.block _ (Array.getElem?_eq_some_iff.1 Hit2.out).1).trans Hit2.out) hkb.out)))
            go_roundw
            case rel => exact ⟨k + wd, e, 0, _, by omega, Hlen.out, by omega, by omega, by omega, by omega, by go_num, by go_num, h4.out, h2.out, (Hb2.out.trans (h1.out.mono Hsz2.out)).trans h3.out, Hst.out⟩
            case measure =>
              simp only [World.iterPos, h4.out, hit]
              omega
          · obtain rfl : m = 2 := by omega
            have Hst : Hid (unS (piecesL (bl s)) 0 0 = unF o ((bl s).drop (k + wd)) e 1) := Lib.hid (by rw [Hun.out, Hhex2.out d (by omega) hx, he])
            have he16 : e < 16 := by have := Hc2.out rfl; omega
            clear Hhexno Hhex2 Hhex1 Hslash Hno Hself Hwh Hct Hwz hx he
            go_wp2_with (first | (go_at_call 33; rw [hdig.out]; refine (Hix.out _).mono ?_; rintro e w3 ⟨rfl, h1⟩; replace h1 := Lib.hid h1))
            go_roundw
            case rel => exact ⟨k + wd, e, 1, o, by omega, by omega, by omega, by omega, by omega, by omega, by go_num, by go_num, (h1.out.block _ (Array.getElem?_eq_some_iff.1 Hit2.out).1).trans Hit2.out, Hbl2.out.below h1.out, Hb2.out.trans (h1.out.mono Hsz2.out), Hst.out⟩
            case measure =>
              simp only [World.iterPos, (h1.out.block _ (Array.getElem?_eq_some_iff.1 Hit2.out).1).trans Hit2.out, hit]
              omega
    · have hnx : ∀ ty, (Instr.next (.pointer (some ⟨w.heap.size + 1, 0, none⟩)) true ty).run Try.prog wr = _ := fun ty => Lib.run_next_end_at wr (w.heap.size + 1) s k ty hit hlt
      have Hv : Hid (unS (piecesL (bl s)) 0 0 = if m = 0 then some o else none) := Lib.hid (by
        rw [Hun.out, List.drop_eq_nil_of_le (by rw [bl_length]; omega), unF_nil])
      have Hol : Hid ((bs o).size ≤ s.size) := Lib.hid (by rw [bs_size]; omega)
      by_cases hm0 : m = 0
      · subst hm0
        have Hv2 : Hid (unS (piecesL (bl s)) 0 0 = some (bl (bs o))) := Lib.hid (by rw [Hv.out, if_pos rfl, bl_bs])
        go_wp2_with (go_at_call 25; refine (wstring_any _ _ _ _ Hbl.out (by omega)).mono ?_; rintro e w3 ⟨rfl, h2⟩)
        go_ret2
        exact ⟨⟨_, _, rfl, .inl ⟨rfl, Hv2.out, Hol.out⟩⟩, Hb.out.trans h2⟩
      · have gm : ((m : Int) == 0) = false := by simp; omega
        have Hv2 : Hid (unS (piecesL (bl s)) 0 0 = none) := Lib.hid (by rw [Hv.out, if_neg hm0])
        go_wp2_with (go_at_call 25; refine (wstring_any _ _ _ _ Hbl.out (by omega)).mono ?_; rintro e w3 ⟨rfl, h2⟩)
        go_ret2
        exact ⟨⟨_, _, rfl, .inr ⟨rfl, Hv2.out⟩⟩, Hb.out.trans h2⟩
end Go.Proofs.Ytidacifgnaohjaa
