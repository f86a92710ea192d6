/-
  Two snapshots compared; the contract of the reference's Save.
-/
import Derived.Test.YtmgbmphheagdmaaGreatDoorVB
import Derived.Laws.StructEq
namespace Go.Proofs.YtmgbmphheagdmaaGreatDoor
open Go.RowKit

def sameS (a b : Sh) : Bool := a.i == b.i && (a.t == b.t && a.d == b.d)
theorem sameS_iff {a b : Sh} : sameS a b = true ↔ a = b := by
  obtain ⟨i, t, d⟩ := a
  obtain ⟨i', t', d'⟩ := b
  unfold sameS
  simp
theorem sameS_false {a b : Sh} (h : a ≠ b) : sameS a b = false := by
  cases hs : sameS a b with
  | false => rfl
  | true => exact absurd (sameS_iff.1 hs) h
theorem fields33 : Tryz.prog.underlying 33 = some (.struct (Tryz.prog.fieldsOf 33)) := by kernel_rfl
theorem stood33 : Tryz.prog.stoodInHeld 33 = false := by kernel_rfl
theorem part3 (x0 x1 : Int) (s : ByteArray) (w : World) : (part 3 #[.int .i64 x0, .int .i64 x1, .string s] 0).run Tryz.prog w = .ok (.int .i64 x0) w ∧ (part 3 #[.int .i64 x0, .int .i64 x1, .string s] 1).run Tryz.prog w = .ok (.int .i64 x1) w ∧
    (part 9 #[.int .i64 x0, .int .i64 x1, .string s] 2).run Tryz.prog w = .ok (.string s) w := ⟨by kernel_rfl, by kernel_rfl, by kernel_rfl⟩
theorem equalIn_snap (a b : Sh) (w : World) : (Op.equalIn 10000 33 (snapV a) (snapV b)).run Tryz.prog w = .ok (sameS a b) w := by
  unfold snapV
  rw [run_equalIn_struct w 9999 33 _ _ fields33 stood33]
  have hf : (Tryz.prog.fieldsOf 33).toList.map (fun f => (decide (f.name ≠ "_"), f.type, f.offset)) = [(true, 3, 0), (true, 3, 1), (true, 9, 2)] := by kernel_rfl
  generalize (Tryz.prog.fieldsOf 33).toList = fs at hf ⊢
  have hlen : fs.length = 3 := by simpa using congrArg List.length hf
  obtain ⟨a', b', c', rfl⟩ : ∃ a b c, fs = [a, b, c] := by
    rcases fs with _ | ⟨a, _ | ⟨b, _ | ⟨c, _ | ⟨x, fs⟩⟩⟩⟩
    · simp at hlen
    · simp at hlen
    · simp at hlen
    · exact ⟨a, b, c, rfl⟩
    · simp at hlen
  simp only [List.map_cons, List.map_nil, List.cons.injEq, Prod.mk.injEq, decide_eq_true_eq, and_true] at hf
  obtain ⟨⟨a1, a2, a3⟩, ⟨b1, b2, b3⟩, c1, c2, c3⟩ := hf
  obtain ⟨p0, p1, p2⟩ := part3 a.i a.t (bs a.d) w
  obtain ⟨q0, q1, q2⟩ := part3 b.i b.t (bs b.d) w
  simp only [Op.eqFields, a2, a3, b2, b3, c2, c3, if_pos a1, if_pos b1, if_pos c1, Sem.run_bind, p0, p1, p2, q0, q1, q2, Result.andThen_ok,
    run_equalIn_int w 9998 3 .i64 .i64 _ _ Tryz.underlying3, run_equalIn_string w 9998 9 _ _ Tryz.underlying9, Sem.run_ite, Sem.run_pure, bs_toList]
  unfold sameS
  by_cases h1 : a.i = b.i <;> by_cases h2 : a.t = b.t <;> by_cases h3 : a.d = b.d <;> simp [h1, h2, h3]
theorem neq_snap (a b : Sh) (w : World) : (binOp .neq 33 (snapV a) (snapV b)).run Tryz.prog w = .ok (.bool (!sameS a b)) w := by
  have h := equalIn_snap a b w
  unfold snapV at h ⊢
  rw [run_neq_struct, h]
  rfl
theorem eql_snap (a b : Sh) (w : World) : (binOp .eql 33 (snapV a) (snapV b)).run Tryz.prog w = .ok (.bool (sameS a b)) w := by
  have h := equalIn_snap a b w
  unfold snapV at h ⊢
  rw [run_eql_struct, h]
  rfl

set_option maxRecDepth 100000 in
set_option maxHeartbeats 8000000 in
theorem refSave_any (s : Sh) (r : Nat) (v : Value) (d : St) (w : World) (u i : Nat) (h : RefD w r v d) (hm : Most d u i) (hu : u ≤ 900000000) (hi : i ≤ 900000) (hs : s.d.length ≤ 900000) :
    Calls Tryz.prog 13 #[.pointer (some ⟨r, 0, none⟩), snapV s] w (RefRet (.int .i64 (saveS s d).1) r v (saveS s d).2 w) := by
  have HV := Lib.hid (fun (W : World) => refRight_any s W (by omega))
  obtain ⟨wa, hwa⟩ : ∃ wa, wa = w.alloc (.cells #[.int .i64 s.i, .int .i64 s.t, .string (bs s.d)] 33) := ⟨_, rfl⟩
  have Ba : Hid (Below w.heap.size w wa) := Lib.hid (by rw [hwa]; exact (Below.refl _ _).alloc (Nat.le_refl _) _)
  have Ha : Hid (Holds wa w.heap.size 33 [.int .i64 s.i, .int .i64 s.t, .string (bs s.d)]) := Lib.hid (by rw [hwa]; exact Holds.new w 33 _)
  have Hwa := Lib.hid hwa
  have Hd := Lib.hid h
  have Hm := Lib.hid hm
  have Hnf : Hid (¬ Foot r v w.heap.size) := Lib.hid (fun hf => hf.elim (fun e => by have := h.size; omega) (fun e => by have := (h.own.lt _ e).2; omega))
  clear hwa h hm
  by_cases hok : okS s
  · have HF := Lib.hid (fun (W : World) => refFile_any s.i.toNat W (okS_lt hok))
    have hii : ((s.i.toNat : Nat) : Int) = s.i := by have := hok.1; omega
    rw [hii] at HF
    have HTx := Lib.hid (fun (W : World) => refText_any s W hok)
    rw [decide_eq_true hok] at HV
    have Htl : Hid ((textS s).length ≤ 1000000) := Lib.hid (by have := text_le hok; omega)
    have Hok := Lib.hid hok
    have Heq := Lib.hid (fun (x : Sh) (W : World) => eql_snap x s W)
    clear hok hii
    unfold snapV at HV HTx Heq ⊢
    obtain ⟨nmv, hnm⟩ : ∃ v, v = bs (shotL s.i.toNat) := ⟨_, rfl⟩
    obtain ⟨txv, htx⟩ : ∃ v, v = bs (textS s) := ⟨_, rfl⟩
    rw [← hnm] at HF
    rw [← htx] at HTx
    have Hnm := Lib.hid hnm
    have Htx := Lib.hid htx
    clear hnm htx
    go_enter Tryz.func13, Tryz.ntmps13
    go_wp2_with fail
    rw [← Hwa.out]
    refine (HV.out _).mono ?_
    rintro e w1 ⟨rfl, hb1⟩
    have B1 : Hid (Below w.heap.size w w1) := Lib.hid (Ba.out.trans (below_mono' hb1 Ba.out.size))
    have H1 := Lib.hid (Ha.out.below hb1 Ha.out.lt)
    have D1 := Lib.hid (Hd.out.below B1.out)
    obtain ⟨_, _, _, c3, _⟩ := D1.out.cells
    clear hb1 HV
    cases ho : d.off with
    | true =>
      have Hres : Hid (saveS s d = (7, d)) := Lib.hid (save_off Hok.out ho)
      rw [ho] at c3
      clear ho
      go_wp2
      go_ret
      exact ⟨by rw [Hres.out]; rfl, v, by rw [Hres.out]; exact D1.out, Only.of_below B1.out (fun k hk => .inr hk), fun k hk => .inl hk⟩
    | false =>
      rw [ho] at c3
      obtain ⟨y0, y1, y2⟩ := holds3 H1.out
      have HF2 := Lib.hid (HF.out w1)
      go_wp2_with fail
      refine HF2.out.mono ?_
      rintro e w2 ⟨rfl, hb2⟩
      have B2 : Hid (Below w.heap.size w w2) := Lib.hid (B1.out.trans (below_mono' hb2 B1.out.size))
      have H2 := Lib.hid (H1.out.below hb2 H1.out.lt)
      have D2 := Lib.hid (Hd.out.below B2.out)
      clear hb2 HF HF2 y0 y1 y2 H1 B1 D1 c3
      have HR := Lib.hid (refread_any (shotL s.i.toNat) r v d w2 D2.out (Hm.out.fit (by omega) (by omega)))
      rw [← Hnm.out] at HR
      cases ha : atN (shotL s.i.toNat) d.files with
      | none =>
        have Hres0 : Hid (saveS s d = putS s d) := Lib.hid (save_none Hok.out ho ha)
        rw [readS_none ho ha] at HR
        clear ho ha
        go_wp2_with fail
        refine HR.out.mono ?_
        rintro e w4 ⟨rfl, qq, hw4⟩
        have D4 : Hid (RefD w4 r v d) := Lib.hid (by rw [hw4]; exact D2.out.drewN qq)
        have H4 : Hid (Holds w4 w.heap.size 33 [.int .i64 s.i, .int .i64 s.t, .string (bs s.d)]) := Lib.hid (by rw [hw4]; exact H2.out.drewN' qq)
        have O4 : Hid (Only (Foot r v) w w4) := Lib.hid (by rw [hw4]; exact (Only.of_below B2.out (fun k hk => .inr hk)).drewN qq)
        have G4 : Hid (∀ k, v.ownBlock = some k → v.ownBlock = some k ∨ w.heap.size ≤ k) := Lib.hid (fun k hk => .inl hk)
        obtain ⟨k0, k1, k2⟩ := holds3 H4.out
        clear HR hw4
        have HT := Lib.hid (HTx.out w4)
        go_wp2_with fail
        refine HT.out.mono ?_
        rintro e w7 ⟨rfl, hb7⟩
        have D7 := Lib.hid (D4.out.below hb7)
        have O7 : Hid (Only (Foot r v) w w7) := Lib.hid (O4.out.below_new hb7)
        have G7 : Hid (∀ k, v.ownBlock = some k → v.ownBlock = some k ∨ w.heap.size ≤ k) := G4
        clear hb7 HT
        obtain ⟨r1, hr1⟩ : ∃ r, r = appendS (shotL s.i.toNat) (textS s) d := ⟨_, rfl⟩
        have HA := Lib.hid (refappend_any (shotL s.i.toNat) (textS s) r v d w7 D7.out (Hm.out.fit (by omega) (by omega)) Htl.out (by rw [shotL_len]; omega))
        have Hm1 := Lib.hid (Hm.out.grows (append_grows (shotL s.i.toNat) (textS s) d))
        rw [← hr1] at HA Hm1
        have Hr1 := Lib.hid hr1
        clear hr1
        go_wp2_with fail
        rw [Hnm.out, Htx.out]
        refine HA.out.mono ?_
        rintro e w8 ⟨rfl, v8, hd8, ho8, hg8⟩
        have D8 := Lib.hid hd8
        have O8 : Hid (Only (Foot r v) w w8) := Lib.hid (O7.out.then ho8 (fun k hk => hk.elim (fun e => .inl (.inl e)) (fun h => (G7.out k h).elim (fun h => .inl (.inr h)) .inr)))
        have G8 : Hid (∀ k, v8.ownBlock = some k → v.ownBlock = some k ∨ w.heap.size ≤ k) := Lib.hid (fun k hk => (hg8 k hk).elim (G7.out k) (fun h => .inr (Nat.le_trans O7.out.size h)))
        clear hd8 ho8 hg8 HA
        by_cases h1 : r1.1 = 0
        · have HS := Lib.hid (refsync_any (shotL s.i.toNat) r v8 r1.2 w8 D8.out (Hm1.out.fit (by have := Htl.out; omega) (by omega)))
          have Hres : Hid (saveS s d = syncS (shotL s.i.toNat) r1.2) := Lib.hid (by rw [Hres0.out]; unfold putS; rw [← Hr1.out]; simp [h1])
          rw [h1, ← Hnm.out]
          clear h1
          go_wp2_with fail
          rw [Hnm.out]
          refine HS.out.mono ?_
          rintro e w9 ⟨rfl, hd9, ho9⟩
          have D9 := Lib.hid hd9
          have O9 : Hid (Only (Foot r v) w w9) := Lib.hid (O8.out.then ho9 (fun k hk => hk.elim (fun e => .inl (.inl e)) (fun h => (G8.out k h).elim (fun h => .inl (.inr h)) .inr)))
          clear hd9 ho9 HS
          go_wp2
          go_ret
          exact ⟨by rw [Hres.out]; rfl, v8, by rw [Hres.out]; exact D9.out, O9.out, G8.out⟩
        · have h1n : (r1.1 != 0) = true := by simpa using h1
          have Hres : Hid (saveS s d = r1) := Lib.hid (by rw [Hres0.out]; unfold putS; rw [← Hr1.out]; simp [h1])
          rw [← Hnm.out, ← Htx.out]
          clear h1
          go_wp2
          go_ret
          exact ⟨by rw [Hres.out]; rfl, v8, by rw [Hres.out]; exact D8.out, O8.out, G8.out⟩
      | some j =>
        obtain ⟨f, hf, hfn⟩ := atN_some ha
        rw [readS_some ho ha hf] at HR
        have husd := used_mem (List.mem_of_getElem? hf)
        have hfu := Hm.out.used
        unfold sizeF at husd
        have HW := Lib.hid (fun (W : World) => refWhole_any (shotL s.i.toNat) (contF f) W (by unfold contF; rw [List.length_append]; omega))
        rw [← Hnm.out] at HW
        unfold SnapRet at HW
        by_cases hc : contF f = textS s
        · have Hres : Hid (saveS s d = (0, d)) := Lib.hid (save_same Hok.out ho ha hf hc)
          have hsn : snapO (shotL s.i.toNat) (contF f) = some s := snapO_whole ⟨Hok.out, rfl, hc⟩
          rw [hsn] at HW
          unfold optV snapV at HW
          have heq := fun W => Heq.out s W
          rw [show sameS s s = true from sameS_iff.2 rfl] at heq
          simp only at HW heq
          clear ho ha hf hfn hc hsn husd hfu
          generalize bs (contF f) = old at *
          go_wp2_with fail
          refine HR.out.mono ?_
          rintro e w4 ⟨rfl, qq, hw4⟩
          have D4 : Hid (RefD w4 r v d) := Lib.hid (by rw [hw4]; exact D2.out.drewN qq)
          have H4 : Hid (Holds w4 w.heap.size 33 [.int .i64 s.i, .int .i64 s.t, .string (bs s.d)]) := Lib.hid (by rw [hw4]; exact H2.out.drewN' qq)
          have O4 : Hid (Only (Foot r v) w w4) := Lib.hid (by rw [hw4]; exact (Only.of_below B2.out (fun k hk => .inr hk)).drewN qq)
          have HW4 := Lib.hid (HW.out w4)
          clear HR hw4
          go_wp2_with fail
          refine HW4.out.mono ?_
          rintro e w5 ⟨rfl, hb5⟩
          have H5 := Lib.hid (H4.out.below hb5 H4.out.lt)
          have k0 := fun o => (holds3 (H5.out.alloc o)).1
          have k1 := fun o => (holds3 (H5.out.alloc o)).2.1
          have k2 := fun o => (holds3 (H5.out.alloc o)).2.2
          have D5 := Lib.hid (D4.out.below hb5)
          have O5 := Lib.hid (O4.out.below_new hb5)
          clear hb5 HW4
          go_wp2
          go_ret
          exact ⟨by rw [Hres.out]; rfl, v, by rw [Hres.out]; exact D5.out.below ((Below.refl _ _).alloc (Nat.le_refl _) _), O5.out.below_new ((Below.refl _ _).alloc (Nat.le_refl _) _), fun k hk => .inl hk⟩
        · obtain ⟨r0, hr0⟩ : ∃ r, r = removeS (shotL s.i.toNat) d := ⟨_, rfl⟩
          have Hres0 : Hid (saveS s d = if r0.1 ≠ 0 then r0 else putS s r0.2) := Lib.hid (by rw [save_turn Hok.out ho ha hf hc, ← hr0])
          have Hm0 := Lib.hid (Hm.out.grows (remove_grows (shotL s.i.toNat) d))
          rw [← hr0] at Hm0
          have Hr0 := Lib.hid hr0
          have hxs : ∀ x, snapO (shotL s.i.toNat) (contF f) = some x → sameS x s = false := fun x hx => sameS_false (fun e => by
            subst e
            exact hc (snapO_some hx).2.2)
          cases hsn : snapO (shotL s.i.toNat) (contF f) with
          | none =>
            rw [hsn] at HW
            unfold optV at HW
            clear ho ha hf hfn hc hsn husd hfu hr0 hxs
            generalize bs (contF f) = old at *
            go_wp2_with fail
            refine HR.out.mono ?_
            rintro e w4 ⟨rfl, qq, hw4⟩
            have D4 : Hid (RefD w4 r v d) := Lib.hid (by rw [hw4]; exact D2.out.drewN qq)
            have H4 : Hid (Holds w4 w.heap.size 33 [.int .i64 s.i, .int .i64 s.t, .string (bs s.d)]) := Lib.hid (by rw [hw4]; exact H2.out.drewN' qq)
            have O4 : Hid (Only (Foot r v) w w4) := Lib.hid (by rw [hw4]; exact (Only.of_below B2.out (fun k hk => .inr hk)).drewN qq)
            have L4 := Lib.hid H4.out.lt
            have C4 := Lib.hid (holds3 H4.out)
            have HW4 := Lib.hid (HW.out w4)
            clear HR hw4
            go_wp2_with fail
            refine HW4.out.mono ?_
            rintro e w5 ⟨rfl, hb5⟩
            have B45 := Lib.hid hb5
            clear hb5 HW4
            obtain ⟨wz, hwz⟩ : ∃ wz, wz = w5.alloc (.cells #[.int .i64 0, .int .i64 0, .string { data := #[] }] 33) := ⟨_, rfl⟩
            have Bz : Hid (Below w5.heap.size w5 wz) := Lib.hid (by rw [hwz]; exact (Below.refl _ _).alloc (Nat.le_refl _) _)
            have D5 := Lib.hid ((D4.out.below B45.out).below Bz.out)
            have O5 : Hid (Only (Foot r v) w wz) := Lib.hid ((O4.out.below_new B45.out).below_new Bz.out)
            have L5 : Hid (w.heap.size < wz.heap.size) := Lib.hid (Nat.lt_of_lt_of_le L4.out (Nat.le_trans B45.out.size Bz.out.size))
            have C5 : Hid (wz.cell? ⟨w.heap.size, 0, none⟩ = some (.int .i64 s.i) ∧ wz.cell? ⟨w.heap.size, 1, none⟩ = some (.int .i64 s.t) ∧ wz.cell? ⟨w.heap.size, 2, none⟩ = some (.string (bs s.d))) := Lib.hid
              ⟨((B45.out.trans (below_mono' Bz.out B45.out.size)).cell (p := ⟨w.heap.size, 0, none⟩) L4.out).trans C4.out.1, ((B45.out.trans (below_mono' Bz.out B45.out.size)).cell (p := ⟨w.heap.size, 1, none⟩) L4.out).trans C4.out.2.1, ((B45.out.trans (below_mono' Bz.out B45.out.size)).cell (p := ⟨w.heap.size, 2, none⟩) L4.out).trans C4.out.2.2⟩
            have Hwz := Lib.hid hwz
            clear hwz
            have HM := Lib.hid (refremove_any (shotL s.i.toNat) r v d wz D5.out (Hm.out.fit (by omega) (by omega)))
            rw [← Hr0.out] at HM
            rw [← Hnm.out] at HM
            go_wp2_with fail
            rw [← Hwz.out]
            refine HM.out.mono ?_
            rintro e w6 ⟨rfl, v6, hd6, ho6, hg6⟩
            have D6 := Lib.hid hd6
            have O6 : Hid (Only (Foot r v) w w6) := Lib.hid (O5.out.then ho6 (fun k hk => .inl hk))
            have G6 : Hid (∀ k, v6.ownBlock = some k → v.ownBlock = some k ∨ w.heap.size ≤ k) := Lib.hid (fun k hk => (hg6 k hk).imp id (fun h => Nat.le_trans O5.out.size h))
            have k0 : w6.cell? ⟨w.heap.size, 0, none⟩ = some (.int .i64 s.i) := (ho6.cell (p := ⟨w.heap.size, 0, none⟩) L5.out Hnf.out).trans C5.out.1
            have k1 : w6.cell? ⟨w.heap.size, 1, none⟩ = some (.int .i64 s.t) := (ho6.cell (p := ⟨w.heap.size, 1, none⟩) L5.out Hnf.out).trans C5.out.2.1
            have k2 : w6.cell? ⟨w.heap.size, 2, none⟩ = some (.string (bs s.d)) := (ho6.cell (p := ⟨w.heap.size, 2, none⟩) L5.out Hnf.out).trans C5.out.2.2
            clear hd6 ho6 hg6 HM
            by_cases h0 : r0.1 = 0
            · have Hres1 : Hid (saveS s d = putS s r0.2) := Lib.hid (by rw [Hres0.out, if_neg (by simp [h0])])
              rw [h0]
              clear h0 Hres0
              have HT := Lib.hid (HTx.out w6)
              go_wp2_with fail
              refine HT.out.mono ?_
              rintro e w7 ⟨rfl, hb7⟩
              have D7 := Lib.hid (D6.out.below hb7)
              have O7 : Hid (Only (Foot r v) w w7) := Lib.hid (O6.out.below_new hb7)
              have G7 : Hid (∀ k, v6.ownBlock = some k → v.ownBlock = some k ∨ w.heap.size ≤ k) := G6
              clear hb7 HT
              obtain ⟨r1, hr1⟩ : ∃ r, r = appendS (shotL s.i.toNat) (textS s) r0.2 := ⟨_, rfl⟩
              have HA := Lib.hid (refappend_any (shotL s.i.toNat) (textS s) r v6 r0.2 w7 D7.out (Hm0.out.fit (by omega) (by omega)) Htl.out (by rw [shotL_len]; omega))
              have Hm1 := Lib.hid (Hm0.out.grows (append_grows (shotL s.i.toNat) (textS s) r0.2))
              rw [← hr1] at HA Hm1
              have Hr1 := Lib.hid hr1
              clear hr1
              go_wp2_with fail
              rw [Hnm.out, Htx.out]
              refine HA.out.mono ?_
              rintro e w8 ⟨rfl, v8, hd8, ho8, hg8⟩
              have D8 := Lib.hid hd8
              have O8 : Hid (Only (Foot r v) w w8) := Lib.hid (O7.out.then ho8 (fun k hk => hk.elim (fun e => .inl (.inl e)) (fun h => (G7.out k h).elim (fun h => .inl (.inr h)) .inr)))
              have G8 : Hid (∀ k, v8.ownBlock = some k → v.ownBlock = some k ∨ w.heap.size ≤ k) := Lib.hid (fun k hk => (hg8 k hk).elim (G7.out k) (fun h => .inr (Nat.le_trans O7.out.size h)))
              clear hd8 ho8 hg8 HA
              by_cases h1 : r1.1 = 0
              · have HS := Lib.hid (refsync_any (shotL s.i.toNat) r v8 r1.2 w8 D8.out (Hm1.out.fit (by have := Htl.out; omega) (by omega)))
                have Hres : Hid (saveS s d = syncS (shotL s.i.toNat) r1.2) := Lib.hid (by rw [Hres1.out]; unfold putS; rw [← Hr1.out]; simp [h1])
                rw [h1, ← Hnm.out]
                clear h1
                go_wp2_with fail
                rw [Hnm.out]
                refine HS.out.mono ?_
                rintro e w9 ⟨rfl, hd9, ho9⟩
                have D9 := Lib.hid hd9
                have O9 : Hid (Only (Foot r v) w w9) := Lib.hid (O8.out.then ho9 (fun k hk => hk.elim (fun e => .inl (.inl e)) (fun h => (G8.out k h).elim (fun h => .inl (.inr h)) .inr)))
                clear hd9 ho9 HS
                go_wp2
                go_ret
                exact ⟨by rw [Hres.out]; rfl, v8, by rw [Hres.out]; exact D9.out, O9.out, G8.out⟩
              · have h1n : (r1.1 != 0) = true := by simpa using h1
                have Hres : Hid (saveS s d = r1) := Lib.hid (by rw [Hres1.out]; unfold putS; rw [← Hr1.out]; simp [h1])
                rw [← Hnm.out, ← Htx.out]
                clear h1
                go_wp2
                go_ret
                exact ⟨by rw [Hres.out]; rfl, v8, by rw [Hres.out]; exact D8.out, O8.out, G8.out⟩
            · have h0n : (r0.1 != 0) = true := by simpa using h0
              have Hres : Hid (saveS s d = r0) := Lib.hid (by rw [Hres0.out, if_pos h0])
              clear h0 Hres0
              go_wp2
              go_ret
              exact ⟨by rw [Hres.out]; rfl, v6, by rw [Hres.out]; exact D6.out, O6.out, G6.out⟩
          | some x =>
            rw [hsn] at HW
            unfold optV snapV at HW
            have heq := fun W => Heq.out x W
            rw [hxs x hsn] at heq
            simp only at HW heq
            clear ho ha hf hfn hc hsn husd hfu hr0 hxs
            generalize bs (contF f) = old at *
            go_wp2_with fail
            refine HR.out.mono ?_
            rintro e w4 ⟨rfl, qq, hw4⟩
            have D4 : Hid (RefD w4 r v d) := Lib.hid (by rw [hw4]; exact D2.out.drewN qq)
            have H4 : Hid (Holds w4 w.heap.size 33 [.int .i64 s.i, .int .i64 s.t, .string (bs s.d)]) := Lib.hid (by rw [hw4]; exact H2.out.drewN' qq)
            have O4 : Hid (Only (Foot r v) w w4) := Lib.hid (by rw [hw4]; exact (Only.of_below B2.out (fun k hk => .inr hk)).drewN qq)
            have L4 := Lib.hid H4.out.lt
            have C4 := Lib.hid (holds3 H4.out)
            have HW4 := Lib.hid (HW.out w4)
            clear HR hw4
            go_wp2_with fail
            refine HW4.out.mono ?_
            rintro e w5 ⟨rfl, hb5⟩
            have B45 := Lib.hid hb5
            have H5 := Lib.hid (H4.out.below hb5 H4.out.lt)
            have k0' := fun o => (holds3 (H5.out.alloc o)).1
            have k1' := fun o => (holds3 (H5.out.alloc o)).2.1
            have k2' := fun o => (holds3 (H5.out.alloc o)).2.2
            clear hb5 HW4
            obtain ⟨wz, hwz⟩ : ∃ wz, wz = w5.alloc (.cells #[.int .i64 x.i, .int .i64 x.t, .string (bs x.d)] 33) := ⟨_, rfl⟩
            have Bz : Hid (Below w5.heap.size w5 wz) := Lib.hid (by rw [hwz]; exact (Below.refl _ _).alloc (Nat.le_refl _) _)
            have D5 := Lib.hid ((D4.out.below B45.out).below Bz.out)
            have O5 : Hid (Only (Foot r v) w wz) := Lib.hid ((O4.out.below_new B45.out).below_new Bz.out)
            have L5 : Hid (w.heap.size < wz.heap.size) := Lib.hid (Nat.lt_of_lt_of_le L4.out (Nat.le_trans B45.out.size Bz.out.size))
            have C5 : Hid (wz.cell? ⟨w.heap.size, 0, none⟩ = some (.int .i64 s.i) ∧ wz.cell? ⟨w.heap.size, 1, none⟩ = some (.int .i64 s.t) ∧ wz.cell? ⟨w.heap.size, 2, none⟩ = some (.string (bs s.d))) := Lib.hid
              ⟨((B45.out.trans (below_mono' Bz.out B45.out.size)).cell (p := ⟨w.heap.size, 0, none⟩) L4.out).trans C4.out.1, ((B45.out.trans (below_mono' Bz.out B45.out.size)).cell (p := ⟨w.heap.size, 1, none⟩) L4.out).trans C4.out.2.1, ((B45.out.trans (below_mono' Bz.out B45.out.size)).cell (p := ⟨w.heap.size, 2, none⟩) L4.out).trans C4.out.2.2⟩
            have Hwz := Lib.hid hwz
            clear hwz
            have HM := Lib.hid (refremove_any (shotL s.i.toNat) r v d wz D5.out (Hm.out.fit (by omega) (by omega)))
            rw [← Hr0.out] at HM
            rw [← Hnm.out] at HM
            go_wp2_with fail
            rw [← Hwz.out]
            refine HM.out.mono ?_
            rintro e w6 ⟨rfl, v6, hd6, ho6, hg6⟩
            have D6 := Lib.hid hd6
            have O6 : Hid (Only (Foot r v) w w6) := Lib.hid (O5.out.then ho6 (fun k hk => .inl hk))
            have G6 : Hid (∀ k, v6.ownBlock = some k → v.ownBlock = some k ∨ w.heap.size ≤ k) := Lib.hid (fun k hk => (hg6 k hk).imp id (fun h => Nat.le_trans O5.out.size h))
            have k0 : w6.cell? ⟨w.heap.size, 0, none⟩ = some (.int .i64 s.i) := (ho6.cell (p := ⟨w.heap.size, 0, none⟩) L5.out Hnf.out).trans C5.out.1
            have k1 : w6.cell? ⟨w.heap.size, 1, none⟩ = some (.int .i64 s.t) := (ho6.cell (p := ⟨w.heap.size, 1, none⟩) L5.out Hnf.out).trans C5.out.2.1
            have k2 : w6.cell? ⟨w.heap.size, 2, none⟩ = some (.string (bs s.d)) := (ho6.cell (p := ⟨w.heap.size, 2, none⟩) L5.out Hnf.out).trans C5.out.2.2
            clear hd6 ho6 hg6 HM
            by_cases h0 : r0.1 = 0
            · have Hres1 : Hid (saveS s d = putS s r0.2) := Lib.hid (by rw [Hres0.out, if_neg (by simp [h0])])
              rw [h0]
              clear h0 Hres0
              have HT := Lib.hid (HTx.out w6)
              go_wp2_with fail
              refine HT.out.mono ?_
              rintro e w7 ⟨rfl, hb7⟩
              have D7 := Lib.hid (D6.out.below hb7)
              have O7 : Hid (Only (Foot r v) w w7) := Lib.hid (O6.out.below_new hb7)
              have G7 : Hid (∀ k, v6.ownBlock = some k → v.ownBlock = some k ∨ w.heap.size ≤ k) := G6
              clear hb7 HT
              obtain ⟨r1, hr1⟩ : ∃ r, r = appendS (shotL s.i.toNat) (textS s) r0.2 := ⟨_, rfl⟩
              have HA := Lib.hid (refappend_any (shotL s.i.toNat) (textS s) r v6 r0.2 w7 D7.out (Hm0.out.fit (by omega) (by omega)) Htl.out (by rw [shotL_len]; omega))
              have Hm1 := Lib.hid (Hm0.out.grows (append_grows (shotL s.i.toNat) (textS s) r0.2))
              rw [← hr1] at HA Hm1
              have Hr1 := Lib.hid hr1
              clear hr1
              go_wp2_with fail
              rw [Hnm.out, Htx.out]
              refine HA.out.mono ?_
              rintro e w8 ⟨rfl, v8, hd8, ho8, hg8⟩
              have D8 := Lib.hid hd8
              have O8 : Hid (Only (Foot r v) w w8) := Lib.hid (O7.out.then ho8 (fun k hk => hk.elim (fun e => .inl (.inl e)) (fun h => (G7.out k h).elim (fun h => .inl (.inr h)) .inr)))
              have G8 : Hid (∀ k, v8.ownBlock = some k → v.ownBlock = some k ∨ w.heap.size ≤ k) := Lib.hid (fun k hk => (hg8 k hk).elim (G7.out k) (fun h => .inr (Nat.le_trans O7.out.size h)))
              clear hd8 ho8 hg8 HA
              by_cases h1 : r1.1 = 0
              · have HS := Lib.hid (refsync_any (shotL s.i.toNat) r v8 r1.2 w8 D8.out (Hm1.out.fit (by have := Htl.out; omega) (by omega)))
                have Hres : Hid (saveS s d = syncS (shotL s.i.toNat) r1.2) := Lib.hid (by rw [Hres1.out]; unfold putS; rw [← Hr1.out]; simp [h1])
                rw [h1, ← Hnm.out]
                clear h1
                go_wp2_with fail
                rw [Hnm.out]
                refine HS.out.mono ?_
                rintro e w9 ⟨rfl, hd9, ho9⟩
                have D9 := Lib.hid hd9
                have O9 : Hid (Only (Foot r v) w w9) := Lib.hid (O8.out.then ho9 (fun k hk => hk.elim (fun e => .inl (.inl e)) (fun h => (G8.out k h).elim (fun h => .inl (.inr h)) .inr)))
                clear hd9 ho9 HS
                go_wp2
                go_ret
                exact ⟨by rw [Hres.out]; rfl, v8, by rw [Hres.out]; exact D9.out, O9.out, G8.out⟩
              · have h1n : (r1.1 != 0) = true := by simpa using h1
                have Hres : Hid (saveS s d = r1) := Lib.hid (by rw [Hres1.out]; unfold putS; rw [← Hr1.out]; simp [h1])
                rw [← Hnm.out, ← Htx.out]
                clear h1
                go_wp2
                go_ret
                exact ⟨by rw [Hres.out]; rfl, v8, by rw [Hres.out]; exact D8.out, O8.out, G8.out⟩
            · have h0n : (r0.1 != 0) = true := by simpa using h0
              have Hres : Hid (saveS s d = r0) := Lib.hid (by rw [Hres0.out, if_pos h0])
              clear h0 Hres0
              go_wp2
              go_ret
              exact ⟨by rw [Hres.out]; rfl, v6, by rw [Hres.out]; exact D6.out, O6.out, G6.out⟩
  · have Hres : Hid (saveS s d = (1, d)) := Lib.hid (by unfold saveS; rw [if_pos hok])
    rw [decide_eq_false hok] at HV
    clear hok
    unfold snapV at HV ⊢
    go_enter Tryz.func13, Tryz.ntmps13
    go_wp2_with fail
    rw [← Hwa.out]
    refine (HV.out _).mono ?_
    rintro e w1 ⟨rfl, hb1⟩
    have B1 : Hid (Below w.heap.size w w1) := Lib.hid (Ba.out.trans (below_mono' hb1 Ba.out.size))
    clear hb1 HV
    go_wp2
    go_ret
    exact ⟨by rw [Hres.out]; rfl, v, by rw [Hres.out]; exact Hd.out.below B1.out, Only.of_below B1.out (fun k hk => .inr hk), fun k hk => .inl hk⟩
end Go.Proofs.YtmgbmphheagdmaaGreatDoor
