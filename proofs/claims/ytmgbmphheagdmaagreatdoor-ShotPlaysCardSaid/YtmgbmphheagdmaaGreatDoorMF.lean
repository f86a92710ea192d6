/-
  What a file holds: the contract of shot.snapIn.
-/
import Derived.Test.YtmgbmphheagdmaaGreatDoorMB
import Derived.Test.YtmgbmphheagdmaaGreatDoorKF
namespace Go.Proofs.YtmgbmphheagdmaaGreatDoor
open Go.RowKit

abbrev mostN : Int := 4611686018427387903
/-- What three reads make of a text. -/
structure Rd3 where
  q1 : Nat × List UInt8 × Bool
  q2 : Nat × List UInt8 × Bool
  q3 : List UInt8 × List UInt8 × Bool
def rd3 (p : List UInt8) : Rd3 :=
  let q1 := rdN mostN p false
  let q2 := rdN mostN q1.2.1 q1.2.2
  ⟨q1, q2, rdT 1048576 q2.2.1 q2.2.2⟩
def rdS (d : Rd3) : Sh := ⟨d.q1.1, d.q2.1, d.q3.1⟩
theorem rdN_enc {n : Nat} (h : n ≤ top) (t : List UInt8) : rdN mostN (encL n ++ t) false = (n, t, false) := by
  rw [rdN_some (decL_enc n h t) (by unfold top at h; unfold mostN; omega), List.drop_left]
theorem rd3_body {s : Sh} (h : okS s) : (rd3 (bodyS s)).q3.2 = ([], false) ∧ rdS (rd3 (bodyS s)) = s := by
  obtain ⟨i0, i1, t0, t1, hd⟩ := h
  have h5 : rdN 1048576 (encL s.d.length ++ s.d) false = (s.d.length, s.d, false) := by
    rw [rdN_some (decL_enc s.d.length (by unfold top; omega) s.d) (by omega), List.drop_left]
  have e : rdT 1048576 (encL s.d.length ++ s.d) false = (s.d, [], false) := by
    unfold rdT
    rw [h5]
    simp
  unfold rd3 bodyS rdS
  simp only [rdN_enc (n := s.i.toNat) (by unfold top; omega), rdN_enc (n := s.t.toNat) (by unfold top; omega), e]
  refine ⟨trivial, ?_⟩
  obtain ⟨a, b, d⟩ := s
  simp only at *
  rw [show ((a.toNat : Nat) : Int) = a by omega, show ((b.toNat : Nat) : Int) = b by omega]
theorem rdN_most {m : Int} {l : List UInt8} {b : Bool} : (rdN m l b).1 ≤ top := by
  cases b with
  | true => rw [rdN_bad]; exact Nat.zero_le _
  | false =>
    rcases rdN_cases m l with e | ⟨n, k, hd, _, e⟩
    · rw [e]; exact Nat.zero_le _
    · rw [e]; exact (decL_sound hd).1
theorem rdT_most {m : Int} {l : List UInt8} {b : Bool} : (rdT m l b).1.length ≤ l.length := by
  unfold rdT
  split
  · simp
  · rw [List.length_take]; have := rdN_length m l b; omega

/-- The snapshot of a file with a name and contents, if there is one. -/
def WholeT (f c : List UInt8) (s : Sh) : Prop := okS s ∧ f = shotL s.i.toNat ∧ c = textS s
def snapO (f c : List UInt8) : Option Sh := if 4 ≤ c.length ∧ okS (rdS (rd3 (c.drop 4))) ∧ shotL (rdS (rd3 (c.drop 4))).i.toNat = f ∧ textS (rdS (rd3 (c.drop 4))) = c then some (rdS (rd3 (c.drop 4))) else none
theorem snapO_some {f c : List UInt8} {s : Sh} (h : snapO f c = some s) : WholeT f c s := by
  unfold snapO at h
  split at h
  · rename_i hc
    injection h with h
    rw [← h]
    exact ⟨hc.2.1, hc.2.2.1.symm, hc.2.2.2.symm⟩
  · cases h
theorem snapO_whole {f c : List UInt8} {s : Sh} (h : WholeT f c s) : snapO f c = some s := by
  obtain ⟨h1, h2, h3⟩ := h
  have e : c.drop 4 = bodyS s := by rw [h3]; rfl
  unfold snapO
  rw [e, (rd3_body h1).2, if_pos ⟨by rw [h3, text_len]; omega, h1, h2.symm, h3.symm⟩]
theorem snapO_none {f c : List UInt8} (h : snapO f c = none) : ∀ q, ¬ WholeT f c q := fun q hq => by rw [snapO_whole hq] at h; cases h
/-- A snapshot, or none, as two results. -/
def optV : Option Sh → Value
  | some s => .tuple #[snapV s, .bool true]
  | none => .tuple #[.agg #[.int .i64 0, .int .i64 0, .string { data := #[] }], .bool false]

def zero3 : List Value := [.int .i64 0, .int .i64 0, .string { data := #[] }]
theorem holds3 {w : World} {g : Nat} {t : TypeId} {a b c : Value} (h : Holds w g t [a, b, c]) : w.cell? ⟨g, 0, none⟩ = some a ∧ w.cell? ⟨g, 1, none⟩ = some b ∧ w.cell? ⟨g, 2, none⟩ = some c :=
  ⟨h.cell rfl, h.cell rfl, h.cell rfl⟩
theorem frozen3 {w : World} {g : Nat} {t : TypeId} {l : List Value} (h : Holds w g t l) : w.frozen? ⟨g, 0, none⟩ = false ∧ w.frozen? ⟨g, 1, none⟩ = false ∧ w.frozen? ⟨g, 2, none⟩ = false :=
  ⟨h.frozen 0, h.frozen 1, h.frozen 2⟩
def set3 (w : World) (g : Nat) (v0 v1 v2 : Value) : World := ((w.setCell ⟨g, 0, none⟩ v0).setCell ⟨g, 1, none⟩ v1).setCell ⟨g, 2, none⟩ v2
theorem set3_holds {w : World} {g : Nat} {t : TypeId} {a b c : Value} (h : Holds w g t [a, b, c]) (v0 v1 v2 : Value) : Holds (set3 w g v0 v1 v2) g t [v0, v1, v2] :=
  ((h.set 0 v0).set 1 v1).set 2 v2
theorem set3_below {B : Nat} {u w : World} {g : Nat} (h : Below B u w) (hg : B ≤ g) (v0 v1 v2 : Value) : Below B u (set3 w g v0 v1 v2) :=
  ((h.setCell hg v0).setCell hg v1).setCell hg v2

/-- What snapIn answers. -/
def SnapRet (f c : List UInt8) (w : World) (e : Ending) (w' : World) : Prop := e = .returned (optV (snapO f c)) ∧ Below w.heap.size w w'

set_option maxRecDepth 100000 in
set_option maxHeartbeats 4000000 in
theorem snapIn_any (f c : List UInt8) (w : World) (hl : c.length ≤ 1000000000) (ht : Tab w) : Calls Tryz.prog 56 #[.string (bs f), .string (bs c)] w (SnapRet f c w) := by
  have hsz : (bs c).size = c.length := bs_size _
  by_cases h4 : c.length < 4
  · have HU : Hid (snapO f c = none) := Lib.hid (by unfold snapO; rw [if_neg (fun h => by omega)])
    have h4z : ((c.length : Nat) : Int) < 4 := by omega
    clear hl ht
    generalize bs c = S at *
    generalize bs f = N at *
    go_enter Tryz.func56, Tryz.ntmps56
    go_wp2
    refine bodyPost_ret (v := optV none) (by simp [results, Tryz.results56, go_sem, optV]) rfl ⟨by rw [HU.out], ?_⟩
    exact (Below.refl _ _).alloc (Nat.le_refl _) _
  · have h4z : ¬ ((c.length : Nat) : Int) < 4 := by omega
    have hle4 : (4 : Int) ≤ (c.length : Int) := by omega
    obtain ⟨P, hP⟩ : ∃ P, P = c.drop 4 := ⟨_, rfl⟩
    have hex4 : (bs c).extract 4 c.length = bs P := by
      rw [← bs_bl ((bs c).extract 4 c.length), bl_extract, bl_bs, List.take_of_length_le (by rw [List.length_drop]; omega), hP]
    have HPs := Lib.hid (bl_bs P)
    have hPl : P.length ≤ 1000000000 := by rw [hP, List.length_drop]; omega
    obtain ⟨wb, hwb⟩ : ∃ wb, wb = w.alloc (.cells #[.int .i64 0, .int .i64 0, .string { data := #[] }] 33) := ⟨_, rfl⟩
    obtain ⟨g, hg⟩ : ∃ g, g = w.heap.size := ⟨_, rfl⟩
    have HB : Hid (Holds wb g 33 zero3) := Lib.hid (by rw [hwb, hg]; exact Holds.new w 33 _)
    have Bb : Hid (Below w.heap.size w wb) := Lib.hid (by rw [hwb]; exact (Below.refl _ _).alloc (Nat.le_refl _) _)
    have hgb : g < wb.heap.size := by rw [hwb, hg]; simp
    have Hwb := Lib.hid hwb
    have Hg := Lib.hid hg
    have SR := Lib.hid (read_any (bs P) wb)
    rw [HPs.out] at SR
    obtain ⟨a, ha⟩ : ∃ a, a = wb.heap.size := ⟨_, rfl⟩
    rw [← ha] at SR
    have Ha := Lib.hid ha
    have Hga : Hid (g < a ∧ some g ≠ some a) := Lib.hid (by rw [ha]; exact ⟨hgb, fun e => by injection e with e; omega⟩)
    have Hka : Hid (∀ k, some a = some k → w.heap.size ≤ k) := Lib.hid (fun k hk => by injection hk with hk; rw [← hk, ha]; exact Bb.out.size)
    obtain ⟨q1, e1⟩ : ∃ q, q = rdN 4611686018427387903 P false := ⟨_, rfl⟩
    obtain ⟨q2, e2⟩ : ∃ q, q = rdN 4611686018427387903 q1.2.1 q1.2.2 := ⟨_, rfl⟩
    obtain ⟨q3, e3⟩ : ∃ q, q = rdT 1048576 q2.2.1 q2.2.2 := ⟨_, rfl⟩
    have L1 : q1.2.1.length ≤ 1000000000 := by rw [e1]; exact Nat.le_trans (rdN_length _ _ _) hPl
    have L2 : q2.2.1.length ≤ 1000000000 := by rw [e2]; exact Nat.le_trans (rdN_length _ _ _) L1
    have L3 : q3.1.length ≤ 1000000000 := by rw [e3]; exact Nat.le_trans rdT_most L2
    obtain ⟨r, hr⟩ : ∃ r : Sh, r = ⟨q1.1, q2.1, q3.1⟩ := ⟨_, rfl⟩
    have Hrd : Hid (rdS (rd3 (c.drop 4)) = r) := Lib.hid (by rw [← hP, hr]; unfold rdS rd3 mostN; simp only [← e1, ← e2, ← e3])
    have Hsn : Hid (snapO f c = if okS r ∧ shotL r.i.toNat = f ∧ textS r = c then some r else none) := Lib.hid (by
      unfold snapO
      rw [Hrd.out]
      by_cases h : okS r ∧ shotL r.i.toNat = f ∧ textS r = c
      · rw [if_pos h, if_pos ⟨by omega, h⟩]
      · rw [if_neg h, if_neg (fun g => h g.2)])
    have HL := Lib.hid (And.intro hPl (And.intro L1 L2))
    have HE := Lib.hid (And.intro e1 (And.intro e2 e3))
    have HV := Lib.hid (fun (W : World) => valid_any r W (by rw [hr]; show q3.1.length ≤ _; omega))
    have HF := Lib.hid (fun (W : World) (hok : okS r) (hb : Below w.heap.size w W) => fileOf_any r W hok (TabB.at ht hb))
    have HC := Lib.hid (fun (W : World) (hok : okS r) => contentOf_any r W hok)
    have hrV : snapV r = .agg #[.int .i64 q1.1, .int .i64 q2.1, .string (bs q3.1)] := by rw [hr]; rfl
    rw [hrV] at HV HF HC
    have HrV := Lib.hid hrV
    clear hwb hg ha hP hgb L1 L2 L3 e1 e2 e3 ht hPl hrV hr hl h4
    go_enter Tryz.func56, Tryz.ntmps56
    go_wp2_with fail
    rw [← Hwb.out]
    refine SR.out.mono ?_
    rintro e w6 ⟨rfl, hr6, hb6, hs6⟩
    rw [← Hg.out]
    have R6 := Lib.hid hr6
    have H6 := Lib.hid (HB.out.below hb6 Hga.out.1)
    have B6 := Lib.hid (Bb.out.trans (below_mono' hb6 (by rw [Ha.out]; exact Bb.out.size)))
    clear hr6 hb6 hs6 SR HB Bb
    have S7 := Lib.hid (num_any P false a w6 R6.out HL.out.1)
    rw [← HE.out.1] at S7
    go_wp2_with fail
    refine S7.out.mono ?_
    rintro e w7 ⟨rfl, hr7, hg7⟩
    have R7 := Lib.hid hr7
    have H7 := Lib.hid (H6.out.grown hg7 Hga.out.2)
    have B7 := Lib.hid (B6.out.grown hg7 B6.out.size Hka.out)
    clear hr7 hg7 S7 R6 H6 B6
    have S8 := Lib.hid (num_any q1.2.1 q1.2.2 a w7 R7.out HL.out.2.1)
    rw [← HE.out.2.1] at S8
    go_wp2_with fail
    refine S8.out.mono ?_
    rintro e w8 ⟨rfl, hr8, hg8⟩
    have R8 := Lib.hid hr8
    have H8 := Lib.hid (H7.out.grown hg8 Hga.out.2)
    have B8 := Lib.hid (B7.out.grown hg8 B7.out.size Hka.out)
    clear hr8 hg8 S8 R7 H7 B7
    have S11 := Lib.hid (text_any 1048576 q2.2.1 q2.2.2 a w8 R8.out HL.out.2.2)
    rw [← HE.out.2.2] at S11
    go_wp2_with fail
    refine S11.out.mono ?_
    rintro e w11 ⟨rfl, hr11, hg11⟩
    have H11 := Lib.hid (H8.out.grown hg11 Hga.out.2)
    have B11 := Lib.hid (B8.out.grown hg11 B8.out.size Hka.out)
    clear hr11 hg11 S11 R8 H8 B8
    obtain ⟨wx1, hwx1⟩ : ∃ wx1, wx1 = w11.alloc (.cells #[.int .i64 q1.1, .int .i64 q2.1, .string (bs q3.1)] 33) := ⟨_, rfl⟩
    obtain ⟨x, hx⟩ : ∃ x, x = w11.heap.size := ⟨_, rfl⟩
    have hbx : Below w11.heap.size w11 wx1 := by rw [hwx1]; exact (Below.refl _ _).alloc (Nat.le_refl _) _
    have HX1 := Lib.hid (H11.out.below hbx H11.out.lt)
    have BX1 := Lib.hid (B11.out.trans (below_mono' hbx B11.out.size))
    have Yx : Hid (Holds wx1 x 33 [.int .i64 q1.1, .int .i64 q2.1, .string (bs q3.1)]) := Lib.hid (by rw [hwx1, hx]; exact Holds.new w11 33 _)
    have Hwx1 := Lib.hid hwx1
    have Hx := Lib.hid hx
    clear hwx1 hbx H11 B11 hx
    go_wp2_with fail
    rw [← Hwx1.out, ← Hx.out]
    refine (HV.out _).mono ?_
    rintro e w12 ⟨rfl, hb12⟩
    have H12 := Lib.hid (HX1.out.below hb12 HX1.out.lt)
    have Y12 := Lib.hid (Yx.out.below hb12 Yx.out.lt)
    have B12 := Lib.hid (BX1.out.trans (below_mono' hb12 BX1.out.size))
    clear hb12 HX1 Yx BX1 HV
    by_cases hok : okS r
    · rw [decide_eq_true hok]
      obtain ⟨y0, y1, y2⟩ := holds3 Y12.out
      have HF2 := Lib.hid (HF.out w12 hok B12.out)
      have Hok := Lib.hid hok
      clear hok HF
      go_wp2_with fail
      refine HF2.out.mono ?_
      rintro e w13 ⟨rfl, hb13⟩
      have H13 := Lib.hid (H12.out.below hb13 H12.out.lt)
      have Y13 := Lib.hid (Y12.out.below hb13 Y12.out.lt)
      have B13 := Lib.hid (B12.out.trans (below_mono' hb13 B12.out.size))
      clear hb13 H12 Y12 B12 HF2 y0 y1 y2
      by_cases hfn : shotL r.i.toNat = f
      · have hne : ((bs (shotL r.i.toNat)).toList == (bs f).toList) = true := by rw [hfn]; simp
        have Hfn := Lib.hid hfn
        obtain ⟨y0, y1, y2⟩ := holds3 Y13.out
        have HC2 := Lib.hid (HC.out w13 Hok.out)
        clear hfn HC
        generalize bs (shotL r.i.toNat) = nm at *
        go_wp2_with fail
        refine HC2.out.mono ?_
        rintro e w14 ⟨rfl, hb14⟩
        have H14 := Lib.hid (H13.out.below hb14 H13.out.lt)
        have Y14 := Lib.hid (Y13.out.below hb14 Y13.out.lt)
        have B14 := Lib.hid (B13.out.trans (below_mono' hb14 B13.out.size))
        clear hb14 H13 Y13 B13 HC2 y0 y1 y2
        obtain ⟨y0, y1, y2⟩ := holds3 Y14.out
        obtain ⟨c0, c1, c2⟩ := holds3 H14.out
        obtain ⟨f0, f1, f2⟩ := frozen3 H14.out
        by_cases hcn : textS r = c
        · have hne2 : ((bs (textS r)).toList == (bs c).toList) = true := by rw [hcn]; simp
          have Hres : Hid (snapO f c = some r) := Lib.hid (by rw [Hsn.out, if_pos ⟨Hok.out, Hfn.out, hcn⟩])
          clear hcn
          generalize bs (textS r) = tx at *
          go_wp2
          change bodyPost Tryz.prog Tryz.f56 (SnapRet f c w) Exit.ret _ (set3 w14 g (.int .i64 q1.1) (.int .i64 q2.1) (.string (bs q3.1)))
          have HX := set3_holds H14.out (.int .i64 q1.1) (.int .i64 q2.1) (.string (bs q3.1))
          have BX := Lib.hid (set3_below B14.out (Nat.le_of_eq Hg.out.symm) (.int .i64 q1.1) (.int .i64 q2.1) (.string (bs q3.1)))
          generalize set3 w14 g (.int .i64 q1.1) (.int .i64 q2.1) (.string (bs q3.1)) = wx at *
          obtain ⟨x0, x1, x2⟩ := holds3 HX
          exact bodyPost_ret (v := .tuple #[.agg #[.int .i64 q1.1, .int .i64 q2.1, .string (bs q3.1)], .bool true]) (by simp [results, Tryz.results56, go_sem, x0, x1, x2]) rfl ⟨by rw [Hres.out]; show _ = Ending.returned (.tuple #[snapV r, .bool true]); rw [HrV.out], BX.out⟩
        · have hne2 : ((bs (textS r)).toList == (bs c).toList) = false := by
            rw [beq_eq_false_iff_ne, bl_toList, bl_toList, bl_bs, bl_bs]; exact hcn
          have Hres : Hid (snapO f c = none) := Lib.hid (by rw [Hsn.out, if_neg (fun h => hcn h.2.2)])
          clear hcn
          generalize bs (textS r) = tx at *
          go_wp2
          change bodyPost Tryz.prog Tryz.f56 (SnapRet f c w) Exit.ret _ (set3 w14 g (.int .i64 0) (.int .i64 0) (.string { data := #[] }))
          have HX := set3_holds H14.out (.int .i64 0) (.int .i64 0) (.string { data := #[] })
          have BX := Lib.hid (set3_below B14.out (Nat.le_of_eq Hg.out.symm) (.int .i64 0) (.int .i64 0) (.string { data := #[] }))
          generalize set3 w14 g (.int .i64 0) (.int .i64 0) (.string { data := #[] }) = wx at *
          obtain ⟨x0, x1, x2⟩ := holds3 HX
          exact bodyPost_ret (v := optV none) (by simp [results, Tryz.results56, go_sem, x0, x1, x2, optV]) rfl ⟨by rw [Hres.out], BX.out⟩
      · have hne : ((bs (shotL r.i.toNat)).toList == (bs f).toList) = false := by
          rw [beq_eq_false_iff_ne, bl_toList, bl_toList, bl_bs, bl_bs]; exact hfn
        have Hres : Hid (snapO f c = none) := Lib.hid (by rw [Hsn.out, if_neg (fun h => hfn h.2.1)])
        obtain ⟨c0, c1, c2⟩ := holds3 H13.out
        obtain ⟨f0, f1, f2⟩ := frozen3 H13.out
        clear hfn
        generalize bs (shotL r.i.toNat) = nm at *
        go_wp2
        change bodyPost Tryz.prog Tryz.f56 (SnapRet f c w) Exit.ret _ (set3 w13 g (.int .i64 0) (.int .i64 0) (.string { data := #[] }))
        have HX := set3_holds H13.out (.int .i64 0) (.int .i64 0) (.string { data := #[] })
        have BX := Lib.hid (set3_below B13.out (Nat.le_of_eq Hg.out.symm) (.int .i64 0) (.int .i64 0) (.string { data := #[] }))
        generalize set3 w13 g (.int .i64 0) (.int .i64 0) (.string { data := #[] }) = wx at *
        obtain ⟨x0, x1, x2⟩ := holds3 HX
        exact bodyPost_ret (v := optV none) (by simp [results, Tryz.results56, go_sem, x0, x1, x2, optV]) rfl ⟨by rw [Hres.out], BX.out⟩
    · rw [decide_eq_false hok]
      have Hres : Hid (snapO f c = none) := Lib.hid (by rw [Hsn.out, if_neg (fun h => hok h.1)])
      obtain ⟨c0, c1, c2⟩ := holds3 H12.out
      obtain ⟨f0, f1, f2⟩ := frozen3 H12.out
      clear hok
      go_wp2
      change bodyPost Tryz.prog Tryz.f56 (SnapRet f c w) Exit.ret _ (set3 w12 g (.int .i64 0) (.int .i64 0) (.string { data := #[] }))
      have HX := set3_holds H12.out (.int .i64 0) (.int .i64 0) (.string { data := #[] })
      have BX := Lib.hid (set3_below B12.out (Nat.le_of_eq Hg.out.symm) (.int .i64 0) (.int .i64 0) (.string { data := #[] }))
      generalize set3 w12 g (.int .i64 0) (.int .i64 0) (.string { data := #[] }) = wx at *
      obtain ⟨x0, x1, x2⟩ := holds3 HX
      exact bodyPost_ret (v := optV none) (by simp [results, Tryz.results56, go_sem, x0, x1, x2, optV]) rfl ⟨by rw [Hres.out], BX.out⟩
end Go.Proofs.YtmgbmphheagdmaaGreatDoor
