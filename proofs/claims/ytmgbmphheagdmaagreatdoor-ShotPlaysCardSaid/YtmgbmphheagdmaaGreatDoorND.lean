/-
  ShotLast.
-/
import Derived.Test.YtmgbmphheagdmaaGreatDoorNE
import Derived.BigRegion
namespace Go.Proofs.YtmgbmphheagdmaaGreatDoor
open Go.RowKit
set_option linter.unusedVariables false
set_option linter.unusedSimpArgs false

/-- Snapshots as cells. -/
def shC (l : List Sh) : List Value := l.flatMap snapC
theorem shC_cons (s : Sh) (l : List Sh) : shC (s :: l) = snapC s ++ shC l := rfl
theorem shC_at : ∀ (l : List Sh) (i : Nat) (r : Sh) (k : Nat), l[i]? = some r → k < 3 → (shC l)[i * 3 + k]? = (snapC r)[k]?
  | [], i, r, k, h, _ => by simp at h
  | q :: l, 0, r, k, h, hk => by
    obtain rfl : q = r := by simpa using h
    rw [shC_cons, Nat.zero_mul, Nat.zero_add, List.getElem?_append_left (by simp [snapC]; omega)]
  | q :: l, i + 1, r, k, h, hk => by
    have := shC_at l i r k (by simpa using h) hk
    rw [shC_cons, show (i + 1) * 3 + k = (snapC q).length + (i * 3 + k) by simp [snapC]; omega, List.getElem?_append_right (by omega), Nat.add_sub_cancel_left]
    exact this
theorem row_sh {w : World} {A : Option Addr} {l : List Sh} (h : RowAt w A (shC l)) {i : Nat} {r : Sh} (hr : l[i]? = some r) : ∃ b off, A = some (⟨b, off, none⟩ : Addr) ∧ b < w.heap.size ∧
    w.cell? ⟨b, off + i * 3, none⟩ = some (.int .i64 r.i) ∧ w.cell? ⟨b, off + i * 3 + 1, none⟩ = some (.int .i64 r.t) ∧ w.cell? ⟨b, off + i * 3 + 2, none⟩ = some (.string (bs r.d)) := by
  have g := fun k v (hk : k < 3) (hv : (snapC r)[k]? = some v) => h (i * 3 + k) v ((shC_at l i r k hr hk).trans hv)
  obtain ⟨b, off, hA, hl, c0⟩ := g 0 _ (by omega) rfl
  refine ⟨b, off, hA, hl, by simpa using c0, ?_, ?_⟩
  · obtain ⟨b', off', hA', _, c⟩ := g 1 _ (by omega) rfl
    rw [hA] at hA'; injection hA' with e; injection e with e1 e2; subst e1 e2
    rw [Nat.add_assoc]; exact c
  · obtain ⟨b', off', hA', _, c⟩ := g 2 _ (by omega) rfl
    rw [hA] at hA'; injection hA' with e; injection e with e1 e2; subst e1 e2
    rw [Nat.add_assoc]; exact c
theorem best_yes {o : Option Sh} {q : Sh} (hq : okS q) (h : bestI o ≤ q.i) : bestS o q = some q := by
  cases o with
  | none => rfl
  | some p => exact if_pos h
theorem best_no {o : Option Sh} {q : Sh} (hq : okS q) (h : ¬ bestI o ≤ q.i) : bestS o q = o := by
  cases o with
  | none =>
    have e : bestI none = -1 := rfl
    have := hq.1
    rw [e] at h
    omega
  | some p => exact if_neg h
/-- What the loop knows: the disk, what it holds, and what was put. -/
structure LastI (B : Nat) (wr : World) (a : Addr) (F : Nat → Prop) (gb : Nat) (o : Option Sh) (dq : St) (i N : Nat) : Prop where
  l : Lon B wr a F dq
  x : Box wr F gb 33 (bestC o)
  k : Kept dq
  lo : LoadF dq.files o
  room : dq.room = 8388608
  len : dq.files.length ≤ 2 * i
  u1 : N < 200000 → usedL dq.files ≤ 31 * i + N
  u2 : usedL dq.files ≤ 31 * i + 1248576
theorem LastI.most {B : Nat} {wr : World} {a : Addr} {F : Nat → Prop} {gb : Nat} {o : Option Sh} {dq : St} {i N : Nat} (h : LastI B wr a F gb o dq i N) (hi : i ≤ 20) : Most dq 1300000 40 :=
  ⟨by have := h.u2; omega, by have := h.len; omega, by rw [h.room]; decide, by rw [h.room]; decide, by rw [h.k.fuse]; decide, by rw [h.k.fuse]; decide⟩

set_option maxRecDepth 100000 in
set_option maxHeartbeats 8000000 in
theorem last_law (l : List Sh) (A : Option Addr) (n cap : Nat) (w : World) (hn : l.length = n) (hrow : RowAt w A (shC l)) (hmax : n ≤ 9223372036854775807) (hall : ∀ q ∈ l, q.d.length ≤ 9223372036854775807) (ht : Tab w) :
    Calls Tryz.prog 5 #[.slice A n cap] w fun e w' => e = .returned (.bool true) ∧ Below w.heap.size w w' := by
  have HT := Lib.hid (TabB.of ht)
  have HA := Lib.hid (awake_any w ht)
  have HN := Lib.hid (fun (W : World) (hb : Below w.heap.size w W) => Lon.start (w := W) (room := 8388608) (by decide) (by decide) (HT.out.on hb).here)
  have Ezz := Lib.hid (fun W => eql_snap zS zS W)
  rw [show sameS zS zS = true from sameS_iff.2 rfl] at Ezz
  unfold snapV zS at Ezz
  simp only [zS_data] at Ezz
  have Hrow := Lib.hid hrow
  have Hn := Lib.hid hn
  have Hall := Lib.hid hall
  clear ht hrow hn hall
  go_enter Tryz.func5, Tryz.ntmps5
  go_wp2_with fail
  refine HA.out.mono ?_
  rintro e w1 ⟨rfl, hb1⟩
  have B1 := Lib.hid hb1
  clear hb1 HA
  go_wp2_with fail
  refine (HN.out _ B1.out).mono ?_
  rintro e w2 ⟨a, F, rfl, l2, b2⟩
  have B2 := Lib.hid (B1.out.trans (below_mono' b2 B1.out.size))
  obtain ⟨wb, hwb⟩ : ∃ wb, wb = w2.alloc (.cells #[.int .i64 (-1), .int .i64 0, .string { data := #[] }] 33) := ⟨_, rfl⟩
  have Bb : Hid (Below w2.heap.size w2 wb) := Lib.hid (by rw [hwb]; exact (Below.refl _ _).alloc (Nat.le_refl _) _)
  have Lb := Lib.hid (l2.below Bb.out)
  have Xb0 : Hid (Box wb F w2.heap.size 33 (bestC none)) := Lib.hid (by rw [hwb]; exact Box.new l2 _ _)
  have Bw := Lib.hid (B2.out.trans (below_mono' Bb.out B2.out.size))
  have Hgb : Hid (w.heap.size ≤ w2.heap.size) := Lib.hid B2.out.size
  have Hgb2 : Hid (w1.heap.size ≤ w2.heap.size) := Lib.hid b2.size
  have Hwb := Lib.hid hwb
  obtain ⟨gb, hgb⟩ : ∃ g, g = w2.heap.size := ⟨_, rfl⟩
  have Hg := Lib.hid hgb
  rw [← hgb] at Xb0 Hgb Hgb2
  have I0 : Hid (LastI w1.heap.size wb a F gb none (newS 8388608) 0 0) := Lib.hid ⟨Lb.out, Xb0.out, ⟨rfl, rfl, List.Pairwise.nil, fun f hf => by cases hf⟩, load_nil, rfl, Nat.le_refl _, fun _ => Nat.le_refl _, Nat.zero_le _⟩
  clear l2 b2 hwb hgb HN Lb Xb0
  go_wp2_with fail
  rw [← Hwb.out, ← Hg.out]
  go_loopw [6, 7, 8] (fun nv iv _ wr => ∃ (i N : Nat) (o : Option Sh) (F' : Nat → Prop) (dq : St), i ≤ 20 ∧ N ≤ 200000 ∧ nv = .int .i64 (N : Int) ∧ iv = .int .i64 i ∧ Hid (LastI w1.heap.size wr a F' gb o dq i N) ∧ Hid (Below w.heap.size w wr) ∧ i ≤ n) (fun _ iv _ _ => 20 - (intOf iv).toNat)
  case atStart => exact ⟨0, 0, none, F, newS 8388608, by omega, by omega, rfl, rfl, I0, Bw, Nat.zero_le _⟩
  case round =>
    clear I0 Bw
    obtain ⟨i, N, o, F', dq, hi20, hN, rfl, rfl, Hi, Br, hin⟩ := hrel
    have Lr := Lib.hid Hi.out.l
    have Xb := Lib.hid Hi.out.x
    have Hk := Lib.hid Hi.out.k
    have Hlo := Lib.hid Hi.out.lo
    have Hm := Lib.hid (Hi.out.most hi20)
    obtain ⟨oc1, oc2, hob⟩ := bestC_first o
    by_cases hlt : i < n
    · have hltz : (i : Int) < (n : Int) := by omega
      by_cases h20 : i < 20
      · have h20z : (i : Int) < 20 := by omega
        obtain ⟨q, hq⟩ : ∃ q, l[i]? = some q := ⟨_, List.getElem?_eq_getElem (by rw [Hn.out]; exact hlt)⟩
        have Hql : Hid (q.d.length ≤ 9223372036854775807) := Lib.hid (Hall.out q (List.mem_of_getElem? hq))
        obtain ⟨b, off, rfl, hbl, e0, e1, e2⟩ := row_sh Hrow.out hq
        have f0 := (Br.out.cell (p := ⟨b, off + i * 3, none⟩) hbl).trans e0
        have f1 := (Br.out.cell (p := ⟨b, off + i * 3 + 1, none⟩) hbl).trans e1
        have f2 := (Br.out.cell (p := ⟨b, off + i * 3 + 2, none⟩) hbl).trans e2
        have He := Lib.hid (And.intro hbl (And.intro e0 (And.intro e1 e2)))
        have hqs : (bs q.d).size = q.d.length := bs_size _
        have hqm := Hql.out
        clear hq hbl e0 e1 e2
        have HR := Lib.hid (fun (W : World) => refRight_any q W (by have := Hql.out; omega))
        have HS := Lib.hid (Lr.out.save q 1300000 40 Hm.out (by decide) (by decide) Hql.out)
        unfold snapV at HR HS
        obtain ⟨L, hL⟩ : ∃ L, L = q.d.length := ⟨_, rfl⟩
        have HL := Lib.hid hL
        rw [← hL] at hqs hqm
        clear hL
        obtain ⟨M, hM⟩ : ∃ M, M = min L 200000 := ⟨_, rfl⟩
        have HMin := Lib.hid hM
        have hMz : min (L : Int) 200000 = (M : Int) := by omega
        have hM2 : M ≤ 200000 := by omega
        clear hM
        by_cases hbig : 200000 < N + M
        · have hbigz : (200000 : Int) < (N : Int) + (M : Int) := by omega
          go_wp2
          go_ret
          exact ⟨rfl, Br.out⟩
        · have hbigz : ¬ (200000 : Int) < (N : Int) + (M : Int) := by omega
          by_cases hok : okS q
          · rw [decide_eq_true hok] at HR
            obtain ⟨fs, hsv, hkk, huu, hll⟩ := save_kept Hk.out Hlo.out (right_shot _) hok (by have h1 := text_bd hok; have h2 := Hi.out.u2; have h3 := Hi.out.room; omega)
            have hms := (Hm.out.save q)
            have hlen2 : fs.length ≤ 2 * (i + 1) := by
              have h1 : Most dq 1300000 (2 * i) := ⟨Hm.out.used, Hi.out.len, Hm.out.room0, Hm.out.room1, Hm.out.fuse0, Hm.out.fuse1⟩
              have h2 := (h1.save q).len
              rw [hsv] at h2
              exact (Nat.le_trans h2 (by omega))
            have htl := text_le hok
            have hdl : q.d.length ≤ 1048576 := hok.2.2.2.2
            rw [hsv] at HS
            have Hnew : Hid (∀ (W : World) (F7 : Nat → Prop) (o2 : Option Sh), Lon w1.heap.size W a F7 { dq with files := fs } → Box W F7 gb 33 (bestC o2) → LoadF fs o2 → LastI w1.heap.size W a F7 gb o2 { dq with files := fs } (i + 1) (N + M)) := Lib.hid (fun W F7 o2 h1 h2 h3 => ⟨h1, h2, hkk, h3, Hi.out.room, hlen2, fun h => by
              have h4 := Hi.out.u1 (by omega)
              have h5 := HMin.out
              have h6 := HL.out
              show usedL fs ≤ _
              omega, by
              have h4 := Hi.out.u2
              have h5 := HMin.out
              have h6 := HL.out
              show usedL fs ≤ _
              by_cases hNN : N < 200000
              · have h7 := Hi.out.u1 hNN
                omega
              · omega⟩)
            have Hll := Lib.hid hll
            have Hok := Lib.hid hok
            clear hsv hkk huu hms hlen2 htl hdl hll hok
            go_wp2_with fail
            refine HS.out.mono ?_
            rintro e w7 ⟨rfl, F7, l7, o7, g7, b7⟩
            have L7 := Lib.hid l7
            have B7 := Lib.hid (Br.out.trans (below_mono' b7 B1.out.size))
            have X7 := Lib.hid (Xb.out.step o7 g7)
            clear l7 o7 g7 b7 HS f0 f1 f2
            have f0 := (B7.out.cell (p := ⟨b, off + i * 3, none⟩) He.out.1).trans He.out.2.1
            have f1 := (B7.out.cell (p := ⟨b, off + i * 3 + 1, none⟩) He.out.1).trans He.out.2.2.1
            have f2 := (B7.out.cell (p := ⟨b, off + i * 3 + 2, none⟩) He.out.1).trans He.out.2.2.2
            go_wp2_with fail
            refine (HR.out _).mono ?_
            rintro e w8 ⟨rfl, hb8⟩
            have L8 := Lib.hid (L7.out.below hb8.drew)
            have B8 := Lib.hid (B7.out.trans (below_mono' hb8.drew B7.out.size))
            have X8 := Lib.hid (X7.out.below hb8.drew)
            clear hb8 HR f0 f1 f2
            have f0 : w8.cell? ⟨b, off + i * 3, none⟩ = _ := (B8.out.cell (p := ⟨b, off + i * 3, none⟩) He.out.1).trans He.out.2.1
            have f1 : w8.cell? ⟨b, off + i * 3 + 1, none⟩ = _ := (B8.out.cell (p := ⟨b, off + i * 3 + 1, none⟩) He.out.1).trans He.out.2.2.1
            have f2 : w8.cell? ⟨b, off + i * 3 + 2, none⟩ = _ := (B8.out.cell (p := ⟨b, off + i * 3 + 2, none⟩) He.out.1).trans He.out.2.2.2
            have hX : Holds w8 gb 33 (bestC o) := X8.out.1
            rw [hob] at hX
            obtain ⟨v0, v1, v2⟩ := holds3 hX
            obtain ⟨u0, u1, u2⟩ := frozen3 hX
            by_cases hbest : bestI o ≤ q.i
            · have Hb2 : Hid (LoadF fs (some q)) := Lib.hid (by have := Hll.out; rwa [best_yes Hok.out hbest] at this)
              have HX2 := Lib.hid (set3_holds (w := w8.drew) hX (.int .i64 q.i) (.int .i64 q.t) (.string (bs q.d)))
              have HB2 : Hid (Below w.heap.size w (set3 w8.drew gb (.int .i64 q.i) (.int .i64 q.t) (.string (bs q.d)))) := Lib.hid (set3_below B8.out Hgb.out _ _ _)
              have HLn : Hid (Lon w1.heap.size (set3 w8.drew gb (.int .i64 q.i) (.int .i64 q.t) (.string (bs q.d))) a F7 { dq with files := fs }) := Lib.hid (by
                have ho : Only (fun k => k = gb) w8.drew (set3 w8.drew gb (.int .i64 q.i) (.int .i64 q.t) (.string (bs q.d))) := (((Only.refl (fun k => k = gb) w8.drew).setCell ⟨gb, 0, none⟩ (.int .i64 q.i) (.inl rfl)).setCell ⟨gb, 1, none⟩ (.int .i64 q.t) (.inl rfl)).setCell ⟨gb, 2, none⟩ (.string (bs q.d)) (.inl rfl)
                refine ⟨good.stay L8.out.d ho.size fun k hk => ho.block k (good.foot L8.out.d k hk) (fun e => X8.out.2 (e ▸ hk)), L8.out.base, L8.out.tab.on (ho.below L8.out.lt (fun k hk => by subst hk; exact Hgb2.out)), Nat.le_trans L8.out.lt ho.size⟩)
              have HXf : Hid (¬ F7 gb) := Lib.hid X8.out.2
              have HI := Lib.hid (Hnew.out _ F7 (some q) HLn.out ⟨HX2.out, HXf.out⟩ Hb2.out)
              clear hX
              go_wp2
              go_region
              go_wp2
              go_roundw
              case rel => exact ⟨i + 1, N + M, some q, F7, { dq with files := fs }, by omega, by omega, by go_num, by go_num, HI, HB2, by omega⟩
              case measure => simp [intOf]; omega
            · have Hb2 : Hid (LoadF fs o) := Lib.hid (by have := Hll.out; rwa [best_no Hok.out hbest] at this)
              have HI := Lib.hid (Hnew.out _ F7 o L8.out X8.out Hb2.out)
              clear hX
              go_wp2
              go_region
              go_wp2
              go_roundw
              case rel => exact ⟨i + 1, N + M, o, F7, { dq with files := fs }, by omega, by omega, by go_num, by go_num, HI, B8, by omega⟩
              case measure => simp [intOf]; omega
          · rw [decide_eq_false hok] at HR
            have hsv : saveS q dq = (1, dq) := by unfold saveS; rw [if_pos hok]
            rw [hsv] at HS
            have Hnew : Hid (∀ (W : World) (F7 : Nat → Prop), Lon w1.heap.size W a F7 dq → Box W F7 gb 33 (bestC o) → LastI w1.heap.size W a F7 gb o dq (i + 1) (N + M)) := Lib.hid (fun W F7 h1 h2 => ⟨h1, h2, Hk.out, Hlo.out, Hi.out.room, by have := Hi.out.len; omega, fun h => by
              have h4 := Hi.out.u1 (by omega)
              omega, by
              have h4 := Hi.out.u2
              omega⟩)
            clear hsv hok
            go_wp2_with fail
            refine HS.out.mono ?_
            rintro e w7 ⟨rfl, F7, l7, o7, g7, b7⟩
            have L7 := Lib.hid l7
            have B7 := Lib.hid (Br.out.trans (below_mono' b7 B1.out.size))
            have X7 := Lib.hid (Xb.out.step o7 g7)
            clear l7 o7 g7 b7 HS f0 f1 f2
            have f0 := (B7.out.cell (p := ⟨b, off + i * 3, none⟩) He.out.1).trans He.out.2.1
            have f1 := (B7.out.cell (p := ⟨b, off + i * 3 + 1, none⟩) He.out.1).trans He.out.2.2.1
            have f2 := (B7.out.cell (p := ⟨b, off + i * 3 + 2, none⟩) He.out.1).trans He.out.2.2.2
            go_wp2_with fail
            refine (HR.out _).mono ?_
            rintro e w8 ⟨rfl, hb8⟩
            have L8 := Lib.hid (L7.out.below hb8.drew)
            have B8 := Lib.hid (B7.out.trans (below_mono' hb8.drew B7.out.size))
            have X8 := Lib.hid (X7.out.below hb8.drew)
            clear hb8 HR f0 f1 f2
            have HI := Lib.hid (Hnew.out _ F7 L8.out X8.out)
            go_wp2
            go_region
            go_wp2
            go_roundw
            case rel => exact ⟨i + 1, N + M, o, F7, dq, by omega, by omega, by go_num, by go_num, HI, B8, by omega⟩
            case measure => simp [intOf]; omega
      · have h20z : ¬ (i : Int) < 20 := by omega
        cases o with
        | none =>
          have HL := Lib.hid (Lr.out.load none (Hm.out.fit (by decide) (by decide)) Hk.out.off Hlo.out)
          unfold loadV at HL
          go_wp2_with fail
          refine HL.out.mono ?_
          rintro e w9 ⟨rfl, l9, b9⟩
          have B9 := Lib.hid (Br.out.trans (below_mono' b9 Br.out.size))
          have x0 := fun o => (holds3 ((Xb.out.below b9).1.alloc o)).1
          have x1 := fun o => (holds3 ((Xb.out.below b9).1.alloc o)).2.1
          have x2 := fun o => (holds3 ((Xb.out.below b9).1.alloc o)).2.2
          have hneg : (-1 : Int) < 0 := by omega
          have ezz := fun W => Ezz.out W
          clear HL l9 b9
          go_wp2
          go_ret
          exact ⟨rfl, B9.out.alloc B9.out.size _⟩
        | some p =>
          have HL := Lib.hid (Lr.out.load (some p) (Hm.out.fit (by decide) (by decide)) Hk.out.off Hlo.out)
          have hp0 : ¬ p.i < 0 := by
            obtain ⟨_, _, hw⟩ := Hlo.out.here
            have := hw.1.1; omega
          have epp := fun W => eql_snap p p W
          rw [show sameS p p = true from sameS_iff.2 rfl] at epp
          unfold snapV at epp
          unfold loadV snapV at HL
          simp only at HL
          go_wp2_with fail
          refine HL.out.mono ?_
          rintro e w9 ⟨rfl, l9, b9⟩
          obtain ⟨wb, hwb⟩ : ∃ wb, wb = w9.alloc (.cells #[.int .i64 p.i, .int .i64 p.t, .string (bs p.d)] 33) := ⟨_, rfl⟩
          have Bb : Hid (Below w9.heap.size w9 wb) := Lib.hid (by rw [hwb]; exact (Below.refl _ _).alloc (Nat.le_refl _) _)
          have Lb := Lib.hid (l9.below Bb.out)
          have B9 := Lib.hid ((Br.out.trans (below_mono' b9 Br.out.size)).trans (below_mono' Bb.out (Nat.le_trans Br.out.size b9.size)))
          have x0 := fun o => (holds3 ((Xb.out.below b9).1.alloc o)).1
          have x1 := fun o => (holds3 ((Xb.out.below b9).1.alloc o)).2.1
          have x2 := fun o => (holds3 ((Xb.out.below b9).1.alloc o)).2.2
          have Hwb := Lib.hid hwb
          have HC := Lib.hid (Lb.out.clean (some p) (Hm.out.fit (by decide) (by decide)) (fun _ => Hlo.out))
          rw [clean_kept Hk.out Hlo.out] at HC
          have Hf2 : Hid (Fit { dq with files := [doneF p] }) := Lib.hid (by
            have h := (Hm.out.clean (some p)).fit (by decide) (by decide)
            rw [clean_kept Hk.out Hlo.out] at h
            exact h)
          clear HL l9 b9 hwb
          go_wp2_with fail
          rw [← Hwb.out]
          refine HC.out.mono ?_
          rintro e w10 ⟨rfl, F10, l10, o10, g10, b10⟩
          have B10 := Lib.hid (B9.out.trans (below_mono' b10 B1.out.size))
          have HM := Lib.hid (l10.names Hf2.out Hk.out.off)
          clear HC l10 o10 g10 b10
          simp only [List.length_singleton] at HM
          go_wp2_with fail
          refine HM.out.mono ?_
          rintro e w11 ⟨A11, cap11, rfl, _, _, b11⟩
          go_wp2
          go_ret
          exact ⟨rfl, B10.out.trans (below_mono' b11 B10.out.size)⟩
    · have hltz : ¬ (i : Int) < (n : Int) := by omega
      cases o with
      | none =>
        have HL := Lib.hid (Lr.out.load none (Hm.out.fit (by decide) (by decide)) Hk.out.off Hlo.out)
        unfold loadV at HL
        go_wp2_with fail
        refine HL.out.mono ?_
        rintro e w9 ⟨rfl, l9, b9⟩
        have B9 := Lib.hid (Br.out.trans (below_mono' b9 Br.out.size))
        have x0 := fun o => (holds3 ((Xb.out.below b9).1.alloc o)).1
        have x1 := fun o => (holds3 ((Xb.out.below b9).1.alloc o)).2.1
        have x2 := fun o => (holds3 ((Xb.out.below b9).1.alloc o)).2.2
        have hneg : (-1 : Int) < 0 := by omega
        have ezz := fun W => Ezz.out W
        clear HL l9 b9
        go_wp2
        go_ret
        exact ⟨rfl, B9.out.alloc B9.out.size _⟩
      | some p =>
        have HL := Lib.hid (Lr.out.load (some p) (Hm.out.fit (by decide) (by decide)) Hk.out.off Hlo.out)
        have hp0 : ¬ p.i < 0 := by
          obtain ⟨_, _, hw⟩ := Hlo.out.here
          have := hw.1.1; omega
        have epp := fun W => eql_snap p p W
        rw [show sameS p p = true from sameS_iff.2 rfl] at epp
        unfold snapV at epp
        unfold loadV snapV at HL
        simp only at HL
        go_wp2_with fail
        refine HL.out.mono ?_
        rintro e w9 ⟨rfl, l9, b9⟩
        obtain ⟨wb, hwb⟩ : ∃ wb, wb = w9.alloc (.cells #[.int .i64 p.i, .int .i64 p.t, .string (bs p.d)] 33) := ⟨_, rfl⟩
        have Bb : Hid (Below w9.heap.size w9 wb) := Lib.hid (by rw [hwb]; exact (Below.refl _ _).alloc (Nat.le_refl _) _)
        have Lb := Lib.hid (l9.below Bb.out)
        have B9 := Lib.hid ((Br.out.trans (below_mono' b9 Br.out.size)).trans (below_mono' Bb.out (Nat.le_trans Br.out.size b9.size)))
        have x0 := fun o => (holds3 ((Xb.out.below b9).1.alloc o)).1
        have x1 := fun o => (holds3 ((Xb.out.below b9).1.alloc o)).2.1
        have x2 := fun o => (holds3 ((Xb.out.below b9).1.alloc o)).2.2
        have Hwb := Lib.hid hwb
        have HC := Lib.hid (Lb.out.clean (some p) (Hm.out.fit (by decide) (by decide)) (fun _ => Hlo.out))
        rw [clean_kept Hk.out Hlo.out] at HC
        have Hf2 : Hid (Fit { dq with files := [doneF p] }) := Lib.hid (by
          have h := (Hm.out.clean (some p)).fit (by decide) (by decide)
          rw [clean_kept Hk.out Hlo.out] at h
          exact h)
        clear HL l9 b9 hwb
        go_wp2_with fail
        rw [← Hwb.out]
        refine HC.out.mono ?_
        rintro e w10 ⟨rfl, F10, l10, o10, g10, b10⟩
        have B10 := Lib.hid (B9.out.trans (below_mono' b10 B1.out.size))
        have HM := Lib.hid (l10.names Hf2.out Hk.out.off)
        clear HC l10 o10 g10 b10
        simp only [List.length_singleton] at HM
        go_wp2_with fail
        refine HM.out.mono ?_
        rintro e w11 ⟨A11, cap11, rfl, _, _, b11⟩
        go_wp2
        go_ret
        exact ⟨rfl, B10.out.trans (below_mono' b11 B10.out.size)⟩
end Go.Proofs.YtmgbmphheagdmaaGreatDoor
