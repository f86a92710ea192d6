/-
  How a disk grows under Save and Clean; ShotCrash.
-/
import Derived.Test.YtmgbmphheagdmaaGreatDoorNC
import Derived.Test.YtmgbmphheagdmaaGreatDoorOF
namespace Go.Proofs.YtmgbmphheagdmaaGreatDoor
open Go.RowKit
set_option linter.unusedVariables false
set_option linter.unusedSimpArgs false

theorem load_ex (l : List Fl) : ∃ o, LoadF l o := by
  have h : ∀ n, ∃ o, LoadF (l.take n) o := by
    intro n
    induction n with
    | zero => exact ⟨none, by rw [List.take_zero]; exact load_nil⟩
    | succ n ih =>
      obtain ⟨o, ho⟩ := ih
      by_cases hn : n < l.length
      · rw [List.take_add_one, List.getElem?_eq_getElem hn]
        obtain ⟨h1, h2, h3⟩ := load_snoc (f := l[n]) ho
        cases hs : snapO l[n].1 (contF l[n]) with
        | none => exact ⟨o, h3 hs⟩
        | some q =>
          by_cases hb : bestI o < q.i
          · exact ⟨some q, h1 q hs hb⟩
          · exact ⟨o, h2 q hs hb⟩
      · rw [List.take_of_length_le (by omega)] at ho ⊢
        exact ⟨o, ho⟩
  have := h l.length
  rwa [List.take_of_length_le (Nat.le_refl _)] at this
theorem Most.more {s : St} {u u' i i' : Nat} (h : Most s u i) (hu : u ≤ u') (hi : i ≤ i') : Most s u' i' := ⟨Nat.le_trans h.used hu, Nat.le_trans h.len hi, h.room0, h.room1, h.fuse0, h.fuse1⟩
theorem Most.rem {s : St} {u i : Nat} (h : Most s u i) (nm : List UInt8) : Most (removeS nm s).2 u i := by
  have hg := remove_grows nm s
  refine ⟨Nat.le_trans hg.used h.used, Nat.le_trans ?_ h.len, hg.room0 h.room0, hg.room1 h.room1, hg.fuse0 h.fuse0, hg.fuse1 h.fuse1⟩
  unfold removeS onS
  split
  · exact Nat.le_refl _
  · cases atN nm s.files with
    | none => exact Nat.le_refl _
    | some i =>
      simp only
      split
      · exact Nat.le_refl _
      · simp only [List.length_append, List.length_take, List.length_drop]
        omega
theorem Most.remS : ∀ (l : List (List UInt8)) {s : St} {u i : Nat}, Most s u i → Most (remS l s).2 u i
  | [], s, u, i, h => h
  | nm :: l, s, u, i, h => by
    by_cases h0 : (removeS nm s).1 ≠ 0
    · have e : Go.Proofs.YtmgbmphheagdmaaGreatDoor.remS (nm :: l) s = removeS nm s := by
        show (if (removeS nm s).1 ≠ 0 then removeS nm s else Go.Proofs.YtmgbmphheagdmaaGreatDoor.remS l (removeS nm s).2) = _
        rw [if_pos h0]
      rw [e]; exact h.rem nm
    · have e : Go.Proofs.YtmgbmphheagdmaaGreatDoor.remS (nm :: l) s = Go.Proofs.YtmgbmphheagdmaaGreatDoor.remS l (removeS nm s).2 := by
        show (if (removeS nm s).1 ≠ 0 then removeS nm s else Go.Proofs.YtmgbmphheagdmaaGreatDoor.remS l (removeS nm s).2) = _
        rw [if_neg h0]
      rw [e]; exact Most.remS l (h.rem nm)
theorem Most.clean {s : St} {u i : Nat} (h : Most s u i) (o : Option Sh) : Most (cleanS o s).2 u i := by
  unfold cleanS
  split
  · exact h
  · exact Most.remS _ h
theorem Most.put {s : St} {u i : Nat} (h : Most s u i) (q : Sh) : Most (putS q s).2 (u + (textS q).length) (i + 2) := by
  have h1 := h.grows (append_grows (shotL q.i.toNat) (textS q) s)
  have h2 := h1.grows (step_grows 1 (shotL q.i.toNat) [] 0 [] (appendS (shotL q.i.toNat) (textS q) s).2 (by unfold I64; omega))
  unfold putS
  simp only
  split
  · exact h1.more (Nat.le_refl _) (by omega)
  · exact h2
theorem Most.save {s : St} {u i : Nat} (h : Most s u i) (q : Sh) : Most (saveS q s).2 (u + (textS q).length) (i + 2) := by
  have h0 : Most s (u + (textS q).length) (i + 2) := h.more (by omega) (by omega)
  unfold saveS
  split
  · exact h0
  · split
    · exact h0
    · split
      · exact h.put q
      · split
        · exact h.put q
        · split
          · exact h0
          · simp only
            split
            · exact (h.rem _).more (by omega) (by omega)
            · exact (h.rem _).put q

set_option maxRecDepth 100000 in
set_option maxHeartbeats 8000000 in
theorem crash_law (a b : Sh) (z : Int) (keep : List Int) (A : Option Addr) (n cap : Nat) (w : World) (ha : a.d.length ≤ 9223372036854775807) (hb : b.d.length ≤ 9223372036854775807) (hz : 0 ≤ z ∧ z ≤ 255) (hn : keep.length = n) (hrow : RowAt w A (intC keep))
    (hall : ∀ x ∈ keep, I64 x) (hmax : n ≤ 9223372036854775807) (ht : Tab w) : Calls Tryz.prog 4 #[snapV a, snapV b, .agg #[.int .u8 z, .slice A n cap]] w fun e w' => e = .returned (.bool true) ∧ Below w.heap.size w w' := by
  have HT := Lib.hid (TabB.of ht)
  have HA := Lib.hid (fun (W : World) (hb : Below w.heap.size w W) => awake_any W (HT.out.on hb).here)
  have HRa := Lib.hid (fun (W : World) => refRight_any a W (by omega))
  have HRb := Lib.hid (fun (W : World) => refRight_any b W (by omega))
  have HN := Lib.hid (fun (W : World) (hb : Below w.heap.size w W) => Lon.start (w := W) (room := 8388608) (by decide) (by decide) (HT.out.on hb).here)
  have Eab := Lib.hid (fun W => eql_snap a b W)
  have Eaa := Lib.hid (fun W => eql_snap a a W)
  have Ebb := Lib.hid (fun W => eql_snap b b W)
  rw [show sameS a a = true from sameS_iff.2 rfl] at Eaa
  rw [show sameS b b = true from sameS_iff.2 rfl] at Ebb
  unfold snapV at HRa HRb Eab Eaa Ebb ⊢
  have Hrow := Lib.hid hrow
  have Hn := Lib.hid hn
  have Hall := Lib.hid hall
  clear ht hrow hn hall
  obtain ⟨wa, hwa⟩ : ∃ wa, wa = ((w.alloc (.cells #[.int .i64 a.i, .int .i64 a.t, .string (bs a.d)] 33)).alloc (.cells #[.int .i64 b.i, .int .i64 b.t, .string (bs b.d)] 33)).alloc (.cells #[.int .u8 z, .slice A n cap] 59) := ⟨_, rfl⟩
  have Ba : Hid (Below w.heap.size w wa) := Lib.hid (by rw [hwa]; exact (((Below.refl _ _).alloc (Nat.le_refl _) _).alloc (by simp) _).alloc (by simp; omega) _)
  have Ha1 : Hid (Holds wa w.heap.size 33 [.int .i64 a.i, .int .i64 a.t, .string (bs a.d)]) := Lib.hid (by rw [hwa]; exact ((Holds.new w 33 #[.int .i64 a.i, .int .i64 a.t, .string (bs a.d)]).alloc _).alloc _)
  have Hb1 : Hid (Holds wa (w.heap.size + 1) 33 [.int .i64 b.i, .int .i64 b.t, .string (bs b.d)]) := Lib.hid (by
    have h := (Holds.new (w.alloc (.cells #[.int .i64 a.i, .int .i64 a.t, .string (bs a.d)] 33)) 33 #[.int .i64 b.i, .int .i64 b.t, .string (bs b.d)]).alloc (.cells #[.int .u8 z, .slice A n cap] 59)
    simp only [World.size_alloc] at h
    rw [hwa]; exact h)
  have Hc1 : Hid (Holds wa (w.heap.size + 1 + 1) 59 [.int .u8 z, .slice A n cap]) := Lib.hid (by
    have h := Holds.new ((w.alloc (.cells #[.int .i64 a.i, .int .i64 a.t, .string (bs a.d)] 33)).alloc (.cells #[.int .i64 b.i, .int .i64 b.t, .string (bs b.d)] 33)) 59 #[.int .u8 z, .slice A n cap]
    simp only [World.size_alloc] at h
    rw [hwa]; exact h)
  have Hwa := Lib.hid hwa
  clear hwa
  go_enter Tryz.func4, Tryz.ntmps4
  go_wp2_with fail
  rw [← Hwa.out]
  refine (HA.out _ Ba.out).mono ?_
  rintro e w1 ⟨rfl, hb1⟩
  have B1 := Lib.hid (Ba.out.trans (below_mono' hb1 Ba.out.size))
  have A1 := Lib.hid (Ha1.out.below hb1 Ha1.out.lt)
  have D1 := Lib.hid (Hb1.out.below hb1 Hb1.out.lt)
  have C1 := Lib.hid (Hc1.out.below hb1 Hc1.out.lt)
  clear hb1 Ha1 Hb1 Hc1
  obtain ⟨y0, y1, y2⟩ := holds3 A1.out
  by_cases hoa : okS a
  · rw [decide_eq_true hoa] at HRa
    have Hoa := Lib.hid hoa
    clear hoa
    go_wp2_with fail
    refine (HRa.out _).mono ?_
    rintro e w2 ⟨rfl, hb2⟩
    have B2 := Lib.hid (B1.out.trans (below_mono' hb2 B1.out.size))
    have A2 := Lib.hid (A1.out.below hb2 A1.out.lt)
    have D2 := Lib.hid (D1.out.below hb2 D1.out.lt)
    have C2 := Lib.hid (C1.out.below hb2 C1.out.lt)
    clear hb2 A1 D1 C1 y0 y1 y2
    obtain ⟨y0, y1, y2⟩ := holds3 D2.out
    by_cases hob : okS b
    · rw [decide_eq_true hob] at HRb
      have Hob := Lib.hid hob
      clear hob
      go_wp2_with fail
      refine (HRb.out _).mono ?_
      rintro e w3 ⟨rfl, hb3⟩
      have B3 := Lib.hid (B2.out.trans (below_mono' hb3 B2.out.size))
      have A3 := Lib.hid (A2.out.below hb3 A2.out.lt)
      have D3 := Lib.hid (D2.out.below hb3 D2.out.lt)
      have C3 := Lib.hid (C2.out.below hb3 C2.out.lt)
      clear hb3 A2 D2 C2 y0 y1 y2
      obtain ⟨y0, y1, y2⟩ := holds3 A3.out
      obtain ⟨x0, x1, x2⟩ := holds3 D3.out
      by_cases hlt : a.i < b.i
      · have hge : ¬ b.i ≤ a.i := by omega
        have Hlt := Lib.hid hlt
        clear hlt
        go_wp2_with fail
        refine (HN.out _ B3.out).mono ?_
        rintro e w4 ⟨d, F, rfl, l4, b4⟩
        have L4 := Lib.hid l4
        have B4 := Lib.hid (B3.out.trans (below_mono' b4 B3.out.size))
        have hno : ∀ g, g < w3.heap.size → ¬ F g := fun g hg hf => by have := l4.base _ hf; omega
        have A4 : Hid (Box w4 F w.heap.size 33 [.int .i64 a.i, .int .i64 a.t, .string (bs a.d)]) := Lib.hid ⟨A3.out.below b4 A3.out.lt, hno _ A3.out.lt⟩
        have D4 : Hid (Box w4 F (w.heap.size + 1) 33 [.int .i64 b.i, .int .i64 b.t, .string (bs b.d)]) := Lib.hid ⟨D3.out.below b4 D3.out.lt, hno _ D3.out.lt⟩
        have C4 : Hid (Box w4 F (w.heap.size + 1 + 1) 59 [.int .u8 z, .slice A n cap]) := Lib.hid ⟨C3.out.below b4 C3.out.lt, hno _ C3.out.lt⟩
        clear l4 b4 hno y0 y1 y2 x0 x1 x2 A3 D3 C3
        have HS := Lib.hid (L4.out.save a 0 0 (most_new 8388608 (by decide) (by decide)) (by decide) (by decide) ha)
        rw [save_first Hoa.out (by have := text_bd Hoa.out; omega)] at HS
        unfold snapV at HS
        obtain ⟨y0, y1, y2⟩ := holds3 A4.out.1
        go_wp2_with fail
        refine HS.out.mono ?_
        rintro e w5 ⟨rfl, F5, l5, o5, g5, b5⟩
        have L5 := Lib.hid l5
        have B5 := Lib.hid (B4.out.trans (below_mono' b5 B3.out.size))
        have A5 := Lib.hid (A4.out.step o5 g5)
        have D5 := Lib.hid (D4.out.step o5 g5)
        have C5 := Lib.hid (C4.out.step o5 g5)
        clear l5 o5 g5 b5 HS A4 D4 C4 y0 y1 y2
        have c0 := C5.out.1.cell (i := 0) rfl
        obtain ⟨fz, hfz⟩ : ∃ fz, fz = z % 6 := ⟨_, rfl⟩
        have hfz0 : 0 ≤ fz ∧ fz ≤ 5 := by omega
        have HF := Lib.hid (L5.out.ret (s' := oneS a fz false) (x := .tuple #[]) (f := 18) (args := #[.pointer (some d), .int .i64 fz]) (by
          have h1 := good.fuse fz d F5 _ w5 L5.out.d (by unfold I64; omega)
          have e : fuseS fz (roomOne a 8388608) = oneS a fz false := by
            unfold fuseS roomOne oneS
            rw [Int.max_eq_left (by omega)]
          rw [e] at h1
          exact h1))
        have Hfz := Lib.hid hfz
        have Hfz0 := Lib.hid hfz0
        clear hfz hfz0
        go_wp2_with fail
        rw [← Hfz.out]
        refine HF.out.mono ?_
        rintro e w6 ⟨rfl, F6, l6, o6, g6, b6⟩
        have L6 := Lib.hid l6
        have B6 := Lib.hid (B5.out.trans (below_mono' b6 B3.out.size))
        have A6 := Lib.hid (A5.out.step o6 g6)
        have D6 := Lib.hid (D5.out.step o6 g6)
        have C6 := Lib.hid (C5.out.step o6 g6)
        clear l6 o6 g6 b6 HF c0 A5 D5 C5
        obtain ⟨y0, y1, y2⟩ := holds3 D6.out.1
        have Hm6 : Hid (Most (oneS a fz false) 1048607 1) := Lib.hid ⟨by show usedL [doneF a] ≤ _; rw [used_done]; exact text_bd Hoa.out, Nat.le_refl _, by show (0 : Int) ≤ 8388608; decide, by show (8388608 : Int) ≤ _; decide, by show -1 ≤ fz; have := Hfz0.out.1; omega, by show fz ≤ _; have := Hfz0.out.2; omega⟩
        have HS := Lib.hid (L6.out.save b 1048607 1 Hm6.out (by decide) (by decide) hb)
        have Hm7 := Lib.hid ((Hm6.out.save b).more (u' := 2097214) (i' := 3) (by have := text_bd Hob.out; omega) (by omega))
        obtain ⟨o, ho⟩ := load_ex (saveS b (oneS a fz false)).2.files
        have Htwo := Lib.hid (crash_two (right_shot _) Hoa.out Hob.out Hlt.out fz Hfz0.out.1 keep o ho)
        have Ho := Lib.hid ho
        clear ho
        generalize saveS b (oneS a fz false) = r7 at *
        unfold snapV at HS
        go_wp2_with fail
        refine HS.out.mono ?_
        rintro e w7 ⟨rfl, F7, l7, o7, g7, b7⟩
        have L7 := Lib.hid l7
        have B7 := Lib.hid (B6.out.trans (below_mono' b7 B3.out.size))
        have A7 := Lib.hid (A6.out.step o7 g7)
        have D7 := Lib.hid (D6.out.step o7 g7)
        have C7 := Lib.hid (C6.out.step o7 g7)
        clear l7 o7 g7 b7 HS y0 y1 y2 A6 D6 C6
        have HC := Lib.hid (L7.out.clean o (Hm7.out.fit (by decide) (by decide)) (fun _ => Ho.out))
        have Hm8 := Lib.hid (Hm7.out.clean o)
        generalize cleanS o r7.2 = r8 at *
        go_wp2_with fail
        refine HC.out.mono ?_
        rintro e w8 ⟨rfl, F8, l8, o8, g8, b8⟩
        have L8 := Lib.hid l8
        have B8 := Lib.hid (B7.out.trans (below_mono' b8 B3.out.size))
        have A8 := Lib.hid (A7.out.step o8 g8)
        have D8 := Lib.hid (D7.out.step o8 g8)
        have C8 := Lib.hid (C7.out.step o8 g8)
        clear l8 o8 g8 b8 HC A7 D7 C7
        have c1 := C8.out.1.cell (i := 1) rfl
        have hrow8 : RowAt w8 A (intC keep) := Hrow.out.below B8.out (Nat.le_refl _)
        have HK := Lib.hid (L8.out.ret (good.crash keep A n cap d F8 _ w8 L8.out.d (Hm8.out.fit (by decide) (by decide)) Hn.out hrow8 (fun g off e h0 hf => by
          obtain ⟨k, hk⟩ : ∃ k, keep[0]? = some k := ⟨_, List.getElem?_eq_getElem (by rw [Hn.out]; exact h0)⟩
          obtain ⟨g', off', e', hg', _⟩ := row_int Hrow.out 0 k hk
          rw [e] at e'
          injection e' with e'
          injection e' with e'
          subst e'
          have h1 := L8.out.base _ hf
          have h2 := B3.out.size
          omega) Hall.out hmax))
        have Hm9 : Hid (Fit (crashS keep r8.2)) := Lib.hid ((Hm8.out.grows (step_grows 7 [] [] 0 keep r8.2 (by unfold I64; omega))).fit (by decide) (by decide))
        have Hoff : Hid ((crashS keep r8.2).off = false) := Lib.hid rfl
        generalize crashS keep r8.2 = d9 at *
        go_wp2_with fail
        refine HK.out.mono ?_
        rintro e w9 ⟨rfl, F9, l9, o9, g9, b9⟩
        have L9 := Lib.hid l9
        have B9 := Lib.hid (B8.out.trans (below_mono' b9 B3.out.size))
        have A9 := Lib.hid (A8.out.step o9 g9)
        have D9 := Lib.hid (D8.out.step o9 g9)
        clear l9 o9 g9 b9 HK c1 hrow8 A8 D8 C8
        obtain ⟨s, hs, hwhich, hone⟩ := Htwo.out
        have Hone := Lib.hid hone
        have HL := Lib.hid (L9.out.load (some s) Hm9.out Hoff.out hs)
        clear hs hone Htwo
        unfold loadV snapV at HL
        simp only at HL
        go_wp2_with fail
        refine HL.out.mono ?_
        rintro e w10 ⟨rfl, l10, b10⟩
        obtain ⟨wb, hwb⟩ : ∃ wb, wb = w10.alloc (.cells #[.int .i64 s.i, .int .i64 s.t, .string (bs s.d)] 33) := ⟨_, rfl⟩
        have Bb : Hid (Below w10.heap.size w10 wb) := Lib.hid (by rw [hwb]; exact (Below.refl _ _).alloc (Nat.le_refl _) _)
        have L10 := Lib.hid (l10.below Bb.out)
        have B10 := Lib.hid ((B9.out.trans (below_mono' b10 (Nat.le_trans B3.out.size L9.out.lt))).trans (below_mono' Bb.out (Nat.le_trans B9.out.size b10.size)))
        have A10 := Lib.hid ((A9.out.below b10).below Bb.out)
        have D10 := Lib.hid ((D9.out.below b10).below Bb.out)
        have Aw := Lib.hid (A9.out.below b10)
        have Dw := Lib.hid (D9.out.below b10)
        have B10w := Lib.hid (B9.out.trans (below_mono' b10 (Nat.le_trans B3.out.size L9.out.lt)))
        have S10 : Hid (Holds wb w10.heap.size 33 [.int .i64 s.i, .int .i64 s.t, .string (bs s.d)]) := Lib.hid (by rw [hwb]; exact Holds.new w10 33 _)
        have Hwb := Lib.hid hwb
        obtain ⟨g, hg⟩ : ∃ g, g = w10.heap.size := ⟨_, rfl⟩
        have Hg := Lib.hid hg
        rw [← hg] at S10
        clear l10 b10 HL A9 D9 hwb hg
        have HM := Lib.hid (L10.out.names Hm9.out Hoff.out)
        by_cases he0 : r7.1 = 0
        · have hb' : s = b := hwhich.resolve_right (fun h => h.2 he0)
          subst hb'
          by_cases hf0 : r8.1 = 0
          · have hlen := Hone.out hf0 he0
            rw [hlen] at HM
            rw [he0, hf0]
            clear he0 hf0 hlen hwhich
            go_wp2_with fail
            rw [← Hwb.out, ← Hg.out]
            refine HM.out.mono ?_
            rintro e w11 ⟨A11, cap11, rfl, _, _, b11⟩
            have B11 := Lib.hid (B10.out.trans (below_mono' b11 B10.out.size))
            obtain ⟨y0, y1, y2⟩ := holds3 (S10.out.below b11 S10.out.lt)
            obtain ⟨x0, x1, x2⟩ := holds3 (D10.out.below b11).1
            have ebb := fun W => Ebb.out W
            clear b11 HM
            go_wp2
            go_ret
            exact ⟨rfl, B11.out⟩
          · have hf0n : (r8.1 == 0) = false := by simpa using hf0
            rw [he0]
            clear he0 hf0 hwhich
            clear HM
            have x0 := fun o => (holds3 (Dw.out.1.alloc o)).1
            have x1 := fun o => (holds3 (Dw.out.1.alloc o)).2.1
            have x2 := fun o => (holds3 (Dw.out.1.alloc o)).2.2
            have ebb := fun W => Ebb.out W
            go_wp2
            go_ret
            exact ⟨rfl, B10w.out.alloc B10w.out.size _⟩
        · have he0n : (r7.1 == 0) = false := by simpa using he0
          have he0m : (r7.1 != 0) = true := by simpa using he0
          rcases hwhich with rfl | ⟨rfl, _⟩
          · by_cases hf0 : r8.1 = 0
            · rw [hf0]
              clear hf0 he0
              clear HM
              have x0 := fun o => (holds3 (Dw.out.1.alloc o)).1
              have x1 := fun o => (holds3 (Dw.out.1.alloc o)).2.1
              have x2 := fun o => (holds3 (Dw.out.1.alloc o)).2.2
              have ebb := fun W => Ebb.out W
              go_wp2
              go_ret
              exact ⟨rfl, B10w.out.alloc B10w.out.size _⟩
            · have hf0n : (r8.1 == 0) = false := by simpa using hf0
              clear hf0 he0
              clear HM
              have x0 := fun o => (holds3 (Dw.out.1.alloc o)).1
              have x1 := fun o => (holds3 (Dw.out.1.alloc o)).2.1
              have x2 := fun o => (holds3 (Dw.out.1.alloc o)).2.2
              have ebb := fun W => Ebb.out W
              go_wp2
              go_ret
              exact ⟨rfl, B10w.out.alloc B10w.out.size _⟩
          · by_cases hf0 : r8.1 = 0
            · rw [hf0]
              clear hf0 he0
              clear HM
              have x0 := fun o => (holds3 (Dw.out.1.alloc o)).1
              have x1 := fun o => (holds3 (Dw.out.1.alloc o)).2.1
              have x2 := fun o => (holds3 (Dw.out.1.alloc o)).2.2
              have v0 := fun o => (holds3 (Aw.out.1.alloc o)).1
              have v1 := fun o => (holds3 (Aw.out.1.alloc o)).2.1
              have v2 := fun o => (holds3 (Aw.out.1.alloc o)).2.2
              have eaa := fun W => Eaa.out W
              have eab := fun W => Eab.out W
              rw [sameS_false (fun e => by have := Hlt.out; rw [e] at this; omega)] at eab
              go_wp2
              go_ret
              exact ⟨rfl, B10w.out.alloc B10w.out.size _⟩
            · have hf0n : (r8.1 == 0) = false := by simpa using hf0
              clear hf0 he0
              clear HM
              have x0 := fun o => (holds3 (Dw.out.1.alloc o)).1
              have x1 := fun o => (holds3 (Dw.out.1.alloc o)).2.1
              have x2 := fun o => (holds3 (Dw.out.1.alloc o)).2.2
              have v0 := fun o => (holds3 (Aw.out.1.alloc o)).1
              have v1 := fun o => (holds3 (Aw.out.1.alloc o)).2.1
              have v2 := fun o => (holds3 (Aw.out.1.alloc o)).2.2
              have eaa := fun W => Eaa.out W
              have eab := fun W => Eab.out W
              rw [sameS_false (fun e => by have := Hlt.out; rw [e] at this; omega)] at eab
              go_wp2
              go_ret
              exact ⟨rfl, B10w.out.alloc B10w.out.size _⟩
      · have hge : b.i ≤ a.i := by omega
        go_wp2
        go_ret
        exact ⟨rfl, B3.out⟩
    · rw [decide_eq_false hob] at HRb
      go_wp2_with fail
      refine (HRb.out _).mono ?_
      rintro e w3 ⟨rfl, hb3⟩
      go_wp2
      go_ret
      exact ⟨rfl, B2.out.trans (below_mono' hb3 B2.out.size)⟩
  · rw [decide_eq_false hoa] at HRa
    go_wp2_with fail
    refine (HRa.out _).mono ?_
    rintro e w2 ⟨rfl, hb2⟩
    go_wp2
    go_ret
    exact ⟨rfl, B1.out.trans (below_mono' hb2 B1.out.size)⟩
end Go.Proofs.YtmgbmphheagdmaaGreatDoor
