/-
  WalCrash, walked.
-/
import Derived.Test.YtdneobnnmmlebaaGreatDoorWT
namespace Go.Proofs.YtdneobnnmmlebaaGreatDoor
open Go.RowKit
set_option linter.unusedSimpArgs false

theorem prR_append (l m : List Pt) : prR (l ++ m) = prR l ++ prR m := by simp [prR]
theorem prS_append (l m : List Pt) : prS (l ++ m) = prS l ++ prS m := by simp [prS]
theorem prR_length (l : List Pt) : (prR l).length = l.length := by simp [prR]
theorem prS_length (l : List Pt) : (prS l).length = l.length := by simp [prS]
theorem row_drew {w : World} {A : Option Addr} {cs : List Value} (h : RowAt w A cs) : RowAt w.drew A cs := h.below ((Below.refl w.heap.size w).drew) (Nat.le_refl _)
theorem own_n {w : World} {B : Nat} {e : TypeId} {k : Nat} {v : Value} {n m : Nat} {cs : List Value} (h : w.ownsRow B e k v n cs) (hn : n = m) : w.ownsRow B e k v m cs := hn ▸ h
theorem own_cap' {w : World} {B : Nat} {e : TypeId} {k : Nat} {A : Option Addr} {n c : Nat} {cs : List Value} (h : w.ownsRow B e k (.slice A n c) n cs) : n ≤ c := by
  rcases h.2 with ⟨_, h0⟩ | ⟨g, c', _, hv, _⟩
  · omega
  · injection hv with h1 h2 h3
    subst h1
    exact own_cap h
theorem Small.take {l : List Rc} (h : Small l) (i : Nat) : Small (l.take i) := fun r hr => h r (List.mem_of_mem_take hr)
theorem intC_length (l : List Int) : (intC l).length = l.length := by simp [intC]
theorem row_block {w : World} {A : Option Addr} {cs : List Value} (h : RowAt w A cs) (h0 : 0 < cs.length) {g off : Nat} (e : A = some (⟨g, off, none⟩ : Addr)) : g < w.heap.size := by
  obtain ⟨b, off', e', hl, _⟩ := h 0 _ (List.getElem?_eq_getElem h0)
  rw [e] at e'
  injection e' with e'; injection e' with e1
  rw [e1]; exact hl
theorem row_flag {w : World} {A : Option Addr} {l : List Bool} (h : RowAt w A (boC l)) {i : Nat} {r : Bool} (hr : l[i]? = some r) : ∃ b off, A = some (⟨b, off, none⟩ : Addr) ∧ b < w.heap.size ∧ w.cell? ⟨b, off + i, none⟩ = some (.bool r) :=
  h i _ (by unfold boC; rw [List.getElem?_map, hr]; rfl)
theorem crL_begin {G : GoodD} {V : GoodW G} {B : Nat} {w0 w : World} {a x : Addr} {F FX : Nat → Prop} {fz : Int} {l : List Rc} (h : LogAt G V B w a F (fuseS fz (begunS [] 8388608)) x FX (startL [] ⟨0, 0, 0⟩)) (hf : 0 ≤ fz ∧ fz ≤ 255) (hb : Below B w0 w) (hz : B ≤ w.heap.size) : CrL G V B w0 a x (l.take 0) 0 w :=
  ⟨⟨F, FX, _, _, h, ⟨[], [], 0, ⟨fresh_log [], by unfold mostS; simp, Nat.le_refl _⟩, fresh_lg [], rfl, Nat.zero_le _, Nat.le_refl _⟩, rfl, rfl, ⟨by show -1 ≤ max fz (-1); omega, by show max fz (-1) ≤ _; omega⟩⟩, hb, hz⟩
theorem World.size_alloc' (w : World) (o : Obj) : (w.alloc o).heap.size = w.heap.size + 1 := by simp
theorem World.size_drew' (w : World) : w.drew.heap.size = w.heap.size := rfl
theorem row_new_at {g : Nat} (W : World) (cs : Array Value) (e : TypeId) (h : g = W.heap.size) : RowAt (W.alloc (.cells cs e)) (some ⟨g, 0, none⟩) cs.toList := by subst h; exact row_new W cs e
theorem okL_small' (l : List Pt) : Small (prR (okL l)) := okL_small l

set_option maxRecDepth 100000 in
set_option maxHeartbeats 8000000 in
theorem crash_law (G : GoodD) (V : GoodW G) (l : List Pt) (A : Option Addr) (n cap : Nat) (fz : Int) (kp : List Int) (A2 : Option Addr) (n2 cap2 : Nat) (w : World) (hlen : l.length = n) (hrow : RowAt w A (ptC l)) (hmax : n ≤ 9223372036854775807) (hall : ∀ p ∈ l, p.1.data.length ≤ 9223372036854775807) (hfz : 0 ≤ fz ∧ fz ≤ 255)
    (hlen2 : kp.length = n2) (hrow2 : RowAt w A2 (intC kp)) (hmax2 : n2 ≤ 9223372036854775807) (hall2 : ∀ z ∈ kp, I64 z) (ht : Tab w) :
    Calls Tryz.prog 3 #[.slice A n cap, .int .u8 fz, .slice A2 n2 cap2] w (Law7 w) := by
  have HA := Lib.hid (awake_any G V w ht)
  have Ht := Lib.hid ht
  clear ht
  have Hrow := Lib.hid hrow
  have Hrow2 := Lib.hid hrow2
  have Hl := Lib.hid hlen
  have Hl2 := Lib.hid hlen2
  have Hall := Lib.hid hall
  have Hall2 := Lib.hid hall2
  clear hrow hrow2 hlen hlen2 hall hall2
  go_enter Tryz.func3, Tryz.ntmps3
  go_wp2_with fail
  refine HA.out.mono ?_
  rintro e w0 ⟨rfl, hb0⟩
  have B0 := Lib.hid hb0
  clear hb0 HA
  go_wp2
  go_loopw [7, 8, 9] (fun v1 v2 iv wr => ∃ i : Nat, i ≤ 40 ∧ i ≤ n ∧ iv = .int .i64 i ∧ TwoRows w0.heap.size w0 v1 (prR (okL (l.take i))) v2 (prS (okL (l.take i))) wr) (fun _ _ iv _ => 40 - (intOf iv).toNat)
  case atStart => exact ⟨0, by omega, by omega, rfl, World.ownsRow_nil _ _ _ _, World.ownsRow_nil _ _ _ _, Below.refl _ _, Nat.le_refl _⟩
  case round =>
    obtain ⟨i, hi40, hi, rfl, hT⟩ := hrel
    have Tn := Lib.hid hT
    obtain ⟨A1, c1, e1, _⟩ := own_row hT.one
    obtain ⟨A3, c3, e3, _⟩ := own_row hT.two
    rw [prR_length] at e1
    rw [prS_length] at e3
    subst e1 e3
    have hle := okL_le (l.take i)
    have hsm := Lib.hid (okL_small' (l.take i))
    have hlt40 : (l.take i).length ≤ 40 := by rw [List.length_take]; omega
    clear hT
    by_cases hlt : i < n
    · have hltz : (i : Int) < (n : Int) := by omega
      by_cases hlt4 : i < 40
      · have hltz4 : (i : Int) < 40 := by omega
        obtain ⟨p, hp⟩ : ∃ p, l[i]? = some p := ⟨_, List.getElem?_eq_getElem (by rw [Hl.out]; exact hlt)⟩
        obtain ⟨b, off, rfl, hbl, c0, c1', c2, c3', c4, c5⟩ := row_pt Hrow.out hp
        have Sof : Hid (∀ (v1 : Value) (l1 : List Rc) (v2 : Value) (l2 : List Bool) (W : World), TwoRows w0.heap.size w0 v1 l1 v2 l2 W → (W.cell? ⟨b, off + i * 6, none⟩ = some (.int .i64 p.1.kind) ∧ W.cell? ⟨b, off + i * 6 + 1, none⟩ = some (.int .i64 p.1.idx) ∧ W.cell? ⟨b, off + i * 6 + 2, none⟩ = some (.int .i64 p.1.term) ∧ W.cell? ⟨b, off + i * 6 + 3, none⟩ = some (.int .i64 p.1.vote) ∧ W.cell? ⟨b, off + i * 6 + 4, none⟩ = some (.string (bs p.1.data))) ∧ W.cell? ⟨b, off + i * 6 + 5, none⟩ = some (.bool p.2)) := Lib.hid (fun v1 l1 v2 l2 W hb => by
          have hw := B0.out.trans (hb.since.mono B0.out.size)
          exact ⟨⟨(hw.cell (p := ⟨b, off + i * 6, none⟩) hbl).trans c0, (hw.cell (p := ⟨b, off + i * 6 + 1, none⟩) hbl).trans c1', (hw.cell (p := ⟨b, off + i * 6 + 2, none⟩) hbl).trans c2, (hw.cell (p := ⟨b, off + i * 6 + 3, none⟩) hbl).trans c3', (hw.cell (p := ⟨b, off + i * 6 + 4, none⟩) hbl).trans c4⟩, (hw.cell (p := ⟨b, off + i * 6 + 5, none⟩) hbl).trans c5⟩)
        obtain ⟨⟨d0, d1, d2, d3, d4⟩, d5⟩ := Sof.out _ _ _ _ _ Tn.out
        have HR := Lib.hid (refright_any p.1 wr (Hall.out p (List.mem_of_getElem? hp)))
        have hbs : (bs p.1.data).size = p.1.data.length := bs_size _
        have Hst := Lib.hid (okL_take hp)
        clear c0 c1' c2 c3' c4 c5 hbl hp
        generalize okL (l.take i) = o at *
        by_cases h2 : p.1.data.length ≤ 1000
        · have h2z : ((p.1.data.length : Nat) : Int) ≤ 1000 := by omega
          by_cases h3 : rightR p.1
          · rw [decide_eq_true h3] at HR
            have Hn : Hid (okL (l.take (i + 1)) = o ++ [p]) := Lib.hid (by rw [Hst.out, if_pos (by unfold okP; rw [decide_eq_true h2, decide_eq_true h3]; rfl)])
            clear h2 h3
            go_wp2_with (go_at_call 8; refine HR.out.mono ?_; rintro e w1 ⟨rfl, hb1⟩; replace Tn := Lib.hid (Tn.out.below hb1); clear d0 d1 d2 d3 d4 d5; obtain ⟨⟨d0, d1, d2, d3, d4⟩, d5⟩ := Sof.out _ _ _ _ _ Tn.out; clear hb1)
            have Hj : Hid ((∀ j, (Value.slice A1 o.length c1).ownBlock = some j → j < w1.heap.size) ∧ (∀ j, (Value.slice A3 o.length c3).ownBlock = some j → j < w1.heap.size)) := Lib.hid ⟨fun j hj => (World.ownsRow.lt Tn.out.one j hj).2, fun j hj => (World.ownsRow.lt Tn.out.two j hj).2⟩
            have hpl : (prR o).length ≤ 40 := by rw [prR_length]; omega
            have hps : (prS o).length ≤ 40 := by rw [prS_length]; omega
            go_region_held3 (fun W => (W.cell? ⟨b, off + i * 6, none⟩ = some (.int .i64 p.1.kind) ∧ W.cell? ⟨b, off + i * 6 + 1, none⟩ = some (.int .i64 p.1.idx) ∧ W.cell? ⟨b, off + i * 6 + 2, none⟩ = some (.int .i64 p.1.term) ∧ W.cell? ⟨b, off + i * 6 + 3, none⟩ = some (.int .i64 p.1.vote) ∧ W.cell? ⟨b, off + i * 6 + 4, none⟩ = some (.string (bs p.1.data))) ∧ W.cell? ⟨b, off + i * 6 + 5, none⟩ = some (.bool p.2))
              (first
                | exact Sof.out _ _ _ _ _ Tn.out
                | exact Sof.out _ _ _ _ _ (by repeat (first | exact Tn.out | apply TwoRows.drew | apply TwoRows.alloc))
                | go_keep)
              (first
                | (refine step_two1 (by rfl) _ _ (by rfl) (by repeat (first | exact Tn.out | apply TwoRows.drew | apply TwoRows.alloc)) (by rfl) p.1 _ _ (by rfl) (by first | (refine HK.out _ _ ?_ (by first | (simp; done) | (simp; omega)); (repeat (first | exact row_new_at _ _ _ (by first | (simp only [World.size_alloc', World.size_drew']; done) | (simp; done)) | apply row_drew | apply row_alloc))) | (repeat (first | exact row_new_at _ _ _ (by first | (simp only [World.size_alloc', World.size_drew']; done) | (simp; done)) | apply row_drew | apply row_alloc))) (by omega) ?_; intro g2 cap2 w2 hT2 hg2; have HK := Lib.hid (fun (bb : Nat) (cs : List Value) (h : RowAt _ (some ⟨bb, 0, none⟩) cs) (hb : w1.heap.size ≤ bb) => row_of_grown h hg2 (fun e => by have h9 : bb < w1.heap.size := Hj.out.1 _ e; omega)); replace Tn := Lib.hid hT2; clear hT2 hg2)
                | (refine step_two2 (by rfl) _ _ (by rfl) (by repeat (first | exact Tn.out | apply TwoRows.drew | apply TwoRows.alloc)) (by rfl) p.2 _ _ (by rfl) (by first | (refine HK.out _ _ ?_ (by first | (simp; done) | (simp; omega)); (repeat (first | exact row_new_at _ _ _ (by first | (simp only [World.size_alloc', World.size_drew']; done) | (simp; done)) | apply row_drew | apply row_alloc))) | (repeat (first | exact row_new_at _ _ _ (by first | (simp only [World.size_alloc', World.size_drew']; done) | (simp; done)) | apply row_drew | apply row_alloc))) (by omega) ?_; intro g3 cap3 w3 hT3 hg3; have HK := Lib.hid (fun (bb : Nat) (cs : List Value) (h : RowAt _ (some ⟨bb, 0, none⟩) cs) (hb : w1.heap.size ≤ bb) => row_of_grown h hg3 (fun e => by have h9 : bb < w1.heap.size := Hj.out.2 _ e; omega)); replace Tn := Lib.hid hT3; clear hT3 hg3)
                | fail "no arm")
            all_goals
              go_wp2
              go_roundw
              case rel => exact ⟨i + 1, by omega, by omega, by go_num, by rw [Hn.out, prR_append, prS_append]; have := Tn.out; rw [prR_length, prS_length] at this; rw [prR_length, prS_length] at *; exact this⟩
              case measure => simp [intOf]; omega
          · rw [decide_eq_false h3] at HR
            have Hn : Hid (okL (l.take (i + 1)) = o) := Lib.hid (by rw [Hst.out, if_neg (by unfold okP; rw [decide_eq_false h3]; simp)])
            clear h2 h3
            go_wp2_with (go_at_call 8; refine HR.out.mono ?_; rintro e w1 ⟨rfl, hb1⟩; have Hb1 := Lib.hid hb1; clear hb1)
            go_roundw
            case rel => exact ⟨i + 1, by omega, by omega, by go_num, by rw [Hn.out]; exact Tn.out.below Hb1.out⟩
            case measure => simp [intOf]; omega
        · have h2z : ¬ ((p.1.data.length : Nat) : Int) ≤ 1000 := by omega
          have Hn : Hid (okL (l.take (i + 1)) = o) := Lib.hid (by rw [Hst.out, if_neg (by unfold okP; rw [decide_eq_false h2]; simp)])
          clear h2
          go_wp2
          go_roundw
          case rel => exact ⟨i + 1, by omega, by omega, by go_num, by rw [Hn.out]; exact Tn.out⟩
          case measure => simp [intOf]; omega
      · have hltz4 : ¬ (i : Int) < 40 := by omega
        generalize okL (l.take i) = o at *
        generalize wr = wA at *
        have T1 := Tn
        have Bw := Lib.hid (B0.out.trans (Tn.out.since.mono B0.out.size))
        have Hsm := hsm
        have hcap : o.length ≤ c1 := own_cap' (own_n Tn.out.one (prR_length o))
        clear hsm
        have HN := Lib.hid (G.new 8388608 wA (by decide) (by decide))
        go_wp2_with fail
        refine HN.out.mono ?_
        rintro e wn ⟨a, F, rfl, hd1, hF1, hb1⟩
        have L1 : Hid (Lon G wA.heap.size wn a F (newS 8388608)) := Lib.hid ⟨hd1, hF1, (TabB.of (TabB.at Ht.out Bw.out)).on hb1⟩
        have B1 := Lib.hid hb1
        have HO := Lib.hid (L1.out.opens V hb1.size (fit_new (by decide) (by decide)) rfl rfl)
        clear hd1 hF1 hb1 HN
        go_wp2_with fail
        refine HO.out.mono ?_
        rintro e w2 ⟨x, FX, A4, n4, cap4, F2, s2, L, m, rfl, hl2, hok, hm, hn, _, _, _, _, _, hb2, hz2⟩
        obtain ⟨rfl, rfl, rfl⟩ := open_new hok
        have B2 := Lib.hid (B1.out.trans hb2)
        have HS := Lib.hid (hl2.starts hz2 (fit_new (by decide) (by decide)) (by show ([] : List Fl).length ≤ 999999; decide) rfl [] none 0 0 (fun _ h => by cases h) rfl (fun j v hj => by simp [rcC] at hj) (fun _ _ e => by cases e) (by simp [framesL]) (by unfold mostS; decide))
        rw [begun_run (by have := startT_nil; omega)] at HS
        clear hl2 hok hm hn hb2 hz2 HO
        go_wp2_with fail
        refine HS.out.mono ?_
        rintro e w3 ⟨rfl, F3, FX3, _, hl3, ho3, hF3, hX3, hb3, hz3⟩
        have L3 := Lib.hid (hl3 rfl)
        have B3 := Lib.hid (B2.out.trans hb3)
        have Z3 := Lib.hid hz3
        have HF := Lib.hid (L3.out.lone.ret' Z3.out (G.fuse fz a F3 _ w3 L3.out.d (by unfold I64; omega)))
        have HFg := Lib.hid (fun (W : World) (F4 : Nat → Prop) (hd : Lon G wA.heap.size W a F4 (fuseS fz (begunS [] 8388608))) (ho : Only F3 w3 W) (hg : ∀ k, F4 k → F3 k ∨ w3.heap.size ≤ k) => L3.out.disk Z3.out hd.d ho hg)
        have hwf : IntKind.i64.wrap fz = fz := by rw [IntKind.wrap_i64]; omega
        clear hl3 ho3 hF3 hX3 hb3 hz3 HS
        go_wp2_with (go_at_call 12; (first | refine HF.out.mono ?_ | (rw [hwf]; refine HF.out.mono ?_)); rintro e w4 ⟨rfl, F4, hl4, ho4, hg4, hb4, hz4⟩; have hL4 := HFg.out w4 F4 hl4 ho4 hg4; have C0 : Hid (CrL G V wA.heap.size wA a x ((prR o).take 0) 0 w4) := Lib.hid (crL_begin hL4 hfz (B3.out.trans hb4) hz4); clear hl4 ho4 hg4 hb4 hz4 hL4)
        go_loopw [15, 16, 84] (fun sv pv iv wr => ∃ i su : Nat, i ≤ o.length ∧ su ≤ i ∧ sv = .int .i64 su ∧ pv = .int .i64 i ∧ iv = .int .i64 i ∧ CrL G V wA.heap.size wA a x ((prR o).take i) su wr) (fun _ _ iv _ => o.length - (intOf iv).toNat)
        case atStart => exact ⟨0, 0, by omega, by omega, rfl, rfl, rfl, C0.out⟩
        case round =>
          obtain ⟨j, su, hj, hsj, rfl, rfl, rfl, hC⟩ := hrel
          have HQ := Lib.hid hC
          clear hC C0
          by_cases hjt : j < o.length
          · have hjz : (j : Int) < (o.length : Int) := by omega
            obtain ⟨q, hq⟩ : ∃ q, o[j]? = some q := ⟨_, List.getElem?_eq_getElem hjt⟩
            have hq1 : (prR o)[j]? = some q.1 := by unfold prR; rw [List.getElem?_map, hq]; rfl
            have hq2 : (prS o)[j]? = some q.2 := by unfold prS; rw [List.getElem?_map, hq]; rfl
            have hqr := Hsm.out q.1 (List.mem_of_getElem? hq1)
            have hnx : (prR o).take (j + 1) = (prR o).take j ++ [q.1] := by rw [List.take_add_one, hq1]; rfl
            obtain ⟨b, off, rfl, hbl, c0, c1', c2, c3', c4⟩ := row_rec (own_row' (own_n T1.out.one (prR_length o))) hq1
            obtain ⟨b2, off2, rfl, hbl2, c5⟩ := row_flag (own_row' (own_n T1.out.two (prS_length o))) hq2
            have d0 := (HQ.out.since.cell (p := ⟨b, off + j * 5, none⟩) hbl).trans c0
            have d1 := (HQ.out.since.cell (p := ⟨b, off + j * 5 + 1, none⟩) hbl).trans c1'
            have d2 := (HQ.out.since.cell (p := ⟨b, off + j * 5 + 2, none⟩) hbl).trans c2
            have d3 := (HQ.out.since.cell (p := ⟨b, off + j * 5 + 3, none⟩) hbl).trans c3'
            have d4 := (HQ.out.since.cell (p := ⟨b, off + j * 5 + 4, none⟩) hbl).trans c4
            have Hc5 := Lib.hid (And.intro hbl2 c5)
            have HP := Lib.hid (fun (W : World) (hb : Below wr.heap.size wr W) (A : Option Addr) (cap : Nat) (hr : RowAt W A (rcC [q.1])) (hA : ∀ g off, A = some (⟨g, off, none⟩ : Addr) → wr.heap.size ≤ g) => HQ.out.put (Small.take Hsm.out j) (by rw [List.length_take]; omega) q.1 hqr.1 hqr.2 W hb A cap hr hA)
            rw [← hnx] at HP
            have Hnx := Lib.hid hnx
            clear hq hq1 hq2 hqr hnx hbl hbl2 c0 c1' c2 c3' c4 c5
            go_wp2_with fail
            refine (HP.out _ ((Below.refl _ _).alloc (Nat.le_refl _) _) (some ⟨wr.heap.size, 0, none⟩) 1 (row_new _ _ _) (fun g off e => by injection e with e; injection e with e; exact Nat.le_of_eq e)).mono ?_
            rintro e w5 ⟨c, rfl, ⟨rfl, h5⟩ | ⟨hc, h5⟩⟩
            · have H5 := Lib.hid h5
              have d5 := (h5.since.cell (p := ⟨b2, off2 + j, none⟩) Hc5.out.1).trans Hc5.out.2
              have HY := Lib.hid (h5.sync (Small.take Hsm.out _) (by rw [List.length_take]; omega))
              clear h5 HP d0 d1 d2 d3 d4
              cases hfl : q.2 with
              | true =>
                rw [hfl] at d5
                go_wp2_with fail
                refine HY.out.mono ?_
                rintro e w6 ⟨c, rfl, ⟨rfl, h6⟩ | ⟨hc, h6⟩⟩
                · have H6 := Lib.hid h6
                  clear h6 HY d5
                  go_wp2
                  go_roundw
                  case rel => exact ⟨j + 1, j + 1, by omega, by omega, by go_num, by go_num, by go_num, by have := H6.out; rwa [List.length_take, Nat.min_eq_left (by rw [prR_length]; omega)] at this⟩
                  case measure => simp [intOf]; omega
                · have H6 := Lib.hid h6
                  clear h6 HY d5
                  have HC := Lib.hid (H6.out.crash (Small.take Hsm.out _) (by rw [List.length_take]; omega) kp A2 n2 cap2 Hl2.out (Hrow2.out.below (Bw.out.trans (H6.out.since.mono Bw.out.size)) (Nat.le_refl _)) (fun g off e h0 => Nat.lt_of_lt_of_le (row_block Hrow2.out (by rw [intC_length, Hl2.out]; exact h0) e) Bw.out.size) Hall2.out hmax2)
                  go_wp2_with fail
                  refine HC.out.mono ?_
                  rintro e w7 ⟨rfl, h7⟩
                  have HO7 := Lib.hid (h7.opens V)
                  clear h7 HC
                  go_wp2_with fail
                  refine HO7.out.mono ?_
                  rintro e w8 ⟨x8, A8, n8, cap8, recs, rfl, hm8, hn8, hr8, hpre, hsu, hb8, hz8⟩
                  have Tz := Lib.hid (T1.out.below hb8)
                  have hbt : beginsB recs ((prR o).take (j + 1)) ((su : Nat) : Int) = true := begins_true hpre hsu (Nat.le_refl _)
                  have Hrz := Lib.hid (row_take (own_row' (own_n Tz.out.one (prR_length o))) (j + 1))
                  have hcp : o.length ≤ c1 := hcap
                  have HBg := Lib.hid (begins_any recs ((prR o).take (j + 1)) A8 (some ⟨b, off, none⟩) n8 (j + 1) cap8 c1 ((su : Nat) : Int) w8 hm8 (by rw [List.length_take, prR_length]; omega) hr8 Hrz.out (by omega) hn8)
                  rw [hbt] at HBg
                  have B8 := Lib.hid (Bw.out.trans (hb8.mono Bw.out.size))
                  clear hm8 hn8 hr8 hpre hsu hb8 hz8 HO7 hbt
                  go_wp2_with (go_at_call 16; refine HBg.out.mono ?_; rintro e w9 ⟨rfl, hb9⟩; have B9 := Lib.hid (B8.out.trans (hb9.mono B8.out.size)); clear hb9)
                  go_ret
                  exact ⟨rfl, B9.out⟩
              | false =>
                rw [hfl] at d5
                go_wp2
                go_roundw
                case rel => exact ⟨j + 1, su, by omega, by omega, rfl, by go_num, by go_num, H5.out⟩
                case measure => simp [intOf]; omega
            · have H5 := Lib.hid h5
              clear h5 HP d0 d1 d2 d3 d4
              have HC := Lib.hid (H5.out.crash (Small.take Hsm.out _) (by rw [List.length_take]; omega) kp A2 n2 cap2 Hl2.out (Hrow2.out.below (Bw.out.trans (H5.out.since.mono Bw.out.size)) (Nat.le_refl _)) (fun g off e h0 => Nat.lt_of_lt_of_le (row_block Hrow2.out (by rw [intC_length, Hl2.out]; exact h0) e) Bw.out.size) Hall2.out hmax2)
              go_wp2_with fail
              refine HC.out.mono ?_
              rintro e w7 ⟨rfl, h7⟩
              have HO7 := Lib.hid (h7.opens V)
              clear h7 HC
              go_wp2_with fail
              refine HO7.out.mono ?_
              rintro e w8 ⟨x8, A8, n8, cap8, recs, rfl, hm8, hn8, hr8, hpre, hsu, hb8, hz8⟩
              have Tz := Lib.hid (T1.out.below hb8)
              have hbt : beginsB recs ((prR o).take (j + 1)) ((su : Nat) : Int) = true := begins_true hpre hsu (Nat.le_succ _)
              have Hrz := Lib.hid (row_take (own_row' (own_n Tz.out.one (prR_length o))) (j + 1))
              have hcp : o.length ≤ c1 := hcap
              have HBg := Lib.hid (begins_any recs ((prR o).take (j + 1)) A8 (some ⟨b, off, none⟩) n8 (j + 1) cap8 c1 ((su : Nat) : Int) w8 hm8 (by rw [List.length_take, prR_length]; omega) hr8 Hrz.out (by omega) hn8)
              rw [hbt] at HBg
              have B8 := Lib.hid (Bw.out.trans (hb8.mono Bw.out.size))
              clear hm8 hn8 hr8 hpre hsu hb8 hz8 HO7 hbt
              go_wp2_with (go_at_call 16; refine HBg.out.mono ?_; rintro e w9 ⟨rfl, hb9⟩; have B9 := Lib.hid (B8.out.trans (hb9.mono B8.out.size)); clear hb9)
              go_ret
              exact ⟨rfl, B9.out⟩
          · have hjz : ¬ (j : Int) < (o.length : Int) := by omega
            have H5 := Lib.hid HQ.out.t
            have HC := Lib.hid (H5.out.crash (Small.take Hsm.out _) (by rw [List.length_take]; omega) kp A2 n2 cap2 Hl2.out (Hrow2.out.below (Bw.out.trans (H5.out.since.mono Bw.out.size)) (Nat.le_refl _)) (fun g off e h0 => Nat.lt_of_lt_of_le (row_block Hrow2.out (by rw [intC_length, Hl2.out]; exact h0) e) Bw.out.size) Hall2.out hmax2)
            go_wp2_with fail
            refine HC.out.mono ?_
            rintro e w7 ⟨rfl, h7⟩
            have HO7 := Lib.hid (h7.opens V)
            clear h7 HC
            go_wp2_with fail
            refine HO7.out.mono ?_
            rintro e w8 ⟨x8, A8, n8, cap8, recs, rfl, hm8, hn8, hr8, hpre, hsu, hb8, hz8⟩
            have Tz := Lib.hid (T1.out.below hb8)
            have hbt : beginsB recs ((prR o).take (j)) ((su : Nat) : Int) = true := begins_true hpre hsu (Nat.le_refl _)
            have Hrz := Lib.hid (row_take (own_row' (own_n Tz.out.one (prR_length o))) (j))
            have hcp : o.length ≤ c1 := hcap
            have HBg := Lib.hid (begins_any recs ((prR o).take (j)) A8 A1 n8 (j) cap8 c1 ((su : Nat) : Int) w8 hm8 (by rw [List.length_take, prR_length]; omega) hr8 Hrz.out (by omega) hn8)
            rw [hbt] at HBg
            have B8 := Lib.hid (Bw.out.trans (hb8.mono Bw.out.size))
            clear hm8 hn8 hr8 hpre hsu hb8 hz8 HO7 hbt
            cases A1 with
            | none =>
              go_wp2_with (go_at_call 16; refine HBg.out.mono ?_; rintro e w9 ⟨rfl, hb9⟩; have B9 := Lib.hid (B8.out.trans (hb9.mono B8.out.size)); clear hb9)
              go_ret
              exact ⟨rfl, B9.out⟩
            | some A1 =>
              go_wp2_with (go_at_call 16; refine HBg.out.mono ?_; rintro e w9 ⟨rfl, hb9⟩; have B9 := Lib.hid (B8.out.trans (hb9.mono B8.out.size)); clear hb9)
              go_ret
              exact ⟨rfl, B9.out⟩
    · have hltz : ¬ (i : Int) < (n : Int) := by omega
      generalize okL (l.take i) = o at *
      generalize wr = wA at *
      have T1 := Tn
      have Bw := Lib.hid (B0.out.trans (Tn.out.since.mono B0.out.size))
      have Hsm := hsm
      have hcap : o.length ≤ c1 := own_cap' (own_n Tn.out.one (prR_length o))
      clear hsm
      have HN := Lib.hid (G.new 8388608 wA (by decide) (by decide))
      go_wp2_with fail
      refine HN.out.mono ?_
      rintro e wn ⟨a, F, rfl, hd1, hF1, hb1⟩
      have L1 : Hid (Lon G wA.heap.size wn a F (newS 8388608)) := Lib.hid ⟨hd1, hF1, (TabB.of (TabB.at Ht.out Bw.out)).on hb1⟩
      have B1 := Lib.hid hb1
      have HO := Lib.hid (L1.out.opens V hb1.size (fit_new (by decide) (by decide)) rfl rfl)
      clear hd1 hF1 hb1 HN
      go_wp2_with fail
      refine HO.out.mono ?_
      rintro e w2 ⟨x, FX, A4, n4, cap4, F2, s2, L, m, rfl, hl2, hok, hm, hn, _, _, _, _, _, hb2, hz2⟩
      obtain ⟨rfl, rfl, rfl⟩ := open_new hok
      have B2 := Lib.hid (B1.out.trans hb2)
      have HS := Lib.hid (hl2.starts hz2 (fit_new (by decide) (by decide)) (by show ([] : List Fl).length ≤ 999999; decide) rfl [] none 0 0 (fun _ h => by cases h) rfl (fun j v hj => by simp [rcC] at hj) (fun _ _ e => by cases e) (by simp [framesL]) (by unfold mostS; decide))
      rw [begun_run (by have := startT_nil; omega)] at HS
      clear hl2 hok hm hn hb2 hz2 HO
      go_wp2_with fail
      refine HS.out.mono ?_
      rintro e w3 ⟨rfl, F3, FX3, _, hl3, ho3, hF3, hX3, hb3, hz3⟩
      have L3 := Lib.hid (hl3 rfl)
      have B3 := Lib.hid (B2.out.trans hb3)
      have Z3 := Lib.hid hz3
      have HF := Lib.hid (L3.out.lone.ret' Z3.out (G.fuse fz a F3 _ w3 L3.out.d (by unfold I64; omega)))
      have HFg := Lib.hid (fun (W : World) (F4 : Nat → Prop) (hd : Lon G wA.heap.size W a F4 (fuseS fz (begunS [] 8388608))) (ho : Only F3 w3 W) (hg : ∀ k, F4 k → F3 k ∨ w3.heap.size ≤ k) => L3.out.disk Z3.out hd.d ho hg)
      have hwf : IntKind.i64.wrap fz = fz := by rw [IntKind.wrap_i64]; omega
      clear hl3 ho3 hF3 hX3 hb3 hz3 HS
      go_wp2_with (go_at_call 12; (first | refine HF.out.mono ?_ | (rw [hwf]; refine HF.out.mono ?_)); rintro e w4 ⟨rfl, F4, hl4, ho4, hg4, hb4, hz4⟩; have hL4 := HFg.out w4 F4 hl4 ho4 hg4; have C0 : Hid (CrL G V wA.heap.size wA a x ((prR o).take 0) 0 w4) := Lib.hid (crL_begin hL4 hfz (B3.out.trans hb4) hz4); clear hl4 ho4 hg4 hb4 hz4 hL4)
      go_loopw [15, 16, 84] (fun sv pv iv wr => ∃ i su : Nat, i ≤ o.length ∧ su ≤ i ∧ sv = .int .i64 su ∧ pv = .int .i64 i ∧ iv = .int .i64 i ∧ CrL G V wA.heap.size wA a x ((prR o).take i) su wr) (fun _ _ iv _ => o.length - (intOf iv).toNat)
      case atStart => exact ⟨0, 0, by omega, by omega, rfl, rfl, rfl, C0.out⟩
      case round =>
        obtain ⟨j, su, hj, hsj, rfl, rfl, rfl, hC⟩ := hrel
        have HQ := Lib.hid hC
        clear hC C0
        by_cases hjt : j < o.length
        · have hjz : (j : Int) < (o.length : Int) := by omega
          obtain ⟨q, hq⟩ : ∃ q, o[j]? = some q := ⟨_, List.getElem?_eq_getElem hjt⟩
          have hq1 : (prR o)[j]? = some q.1 := by unfold prR; rw [List.getElem?_map, hq]; rfl
          have hq2 : (prS o)[j]? = some q.2 := by unfold prS; rw [List.getElem?_map, hq]; rfl
          have hqr := Hsm.out q.1 (List.mem_of_getElem? hq1)
          have hnx : (prR o).take (j + 1) = (prR o).take j ++ [q.1] := by rw [List.take_add_one, hq1]; rfl
          obtain ⟨b, off, rfl, hbl, c0, c1', c2, c3', c4⟩ := row_rec (own_row' (own_n T1.out.one (prR_length o))) hq1
          obtain ⟨b2, off2, rfl, hbl2, c5⟩ := row_flag (own_row' (own_n T1.out.two (prS_length o))) hq2
          have d0 := (HQ.out.since.cell (p := ⟨b, off + j * 5, none⟩) hbl).trans c0
          have d1 := (HQ.out.since.cell (p := ⟨b, off + j * 5 + 1, none⟩) hbl).trans c1'
          have d2 := (HQ.out.since.cell (p := ⟨b, off + j * 5 + 2, none⟩) hbl).trans c2
          have d3 := (HQ.out.since.cell (p := ⟨b, off + j * 5 + 3, none⟩) hbl).trans c3'
          have d4 := (HQ.out.since.cell (p := ⟨b, off + j * 5 + 4, none⟩) hbl).trans c4
          have Hc5 := Lib.hid (And.intro hbl2 c5)
          have HP := Lib.hid (fun (W : World) (hb : Below wr.heap.size wr W) (A : Option Addr) (cap : Nat) (hr : RowAt W A (rcC [q.1])) (hA : ∀ g off, A = some (⟨g, off, none⟩ : Addr) → wr.heap.size ≤ g) => HQ.out.put (Small.take Hsm.out j) (by rw [List.length_take]; omega) q.1 hqr.1 hqr.2 W hb A cap hr hA)
          rw [← hnx] at HP
          have Hnx := Lib.hid hnx
          clear hq hq1 hq2 hqr hnx hbl hbl2 c0 c1' c2 c3' c4 c5
          go_wp2_with fail
          refine (HP.out _ ((Below.refl _ _).alloc (Nat.le_refl _) _) (some ⟨wr.heap.size, 0, none⟩) 1 (row_new _ _ _) (fun g off e => by injection e with e; injection e with e; exact Nat.le_of_eq e)).mono ?_
          rintro e w5 ⟨c, rfl, ⟨rfl, h5⟩ | ⟨hc, h5⟩⟩
          · have H5 := Lib.hid h5
            have d5 := (h5.since.cell (p := ⟨b2, off2 + j, none⟩) Hc5.out.1).trans Hc5.out.2
            have HY := Lib.hid (h5.sync (Small.take Hsm.out _) (by rw [List.length_take]; omega))
            clear h5 HP d0 d1 d2 d3 d4
            cases hfl : q.2 with
            | true =>
              rw [hfl] at d5
              go_wp2_with fail
              refine HY.out.mono ?_
              rintro e w6 ⟨c, rfl, ⟨rfl, h6⟩ | ⟨hc, h6⟩⟩
              · have H6 := Lib.hid h6
                clear h6 HY d5
                go_wp2
                go_roundw
                case rel => exact ⟨j + 1, j + 1, by omega, by omega, by go_num, by go_num, by go_num, by have := H6.out; rwa [List.length_take, Nat.min_eq_left (by rw [prR_length]; omega)] at this⟩
                case measure => simp [intOf]; omega
              · have H6 := Lib.hid h6
                clear h6 HY d5
                have HC := Lib.hid (H6.out.crash (Small.take Hsm.out _) (by rw [List.length_take]; omega) kp A2 n2 cap2 Hl2.out (Hrow2.out.below (Bw.out.trans (H6.out.since.mono Bw.out.size)) (Nat.le_refl _)) (fun g off e h0 => Nat.lt_of_lt_of_le (row_block Hrow2.out (by rw [intC_length, Hl2.out]; exact h0) e) Bw.out.size) Hall2.out hmax2)
                go_wp2_with fail
                refine HC.out.mono ?_
                rintro e w7 ⟨rfl, h7⟩
                have HO7 := Lib.hid (h7.opens V)
                clear h7 HC
                go_wp2_with fail
                refine HO7.out.mono ?_
                rintro e w8 ⟨x8, A8, n8, cap8, recs, rfl, hm8, hn8, hr8, hpre, hsu, hb8, hz8⟩
                have Tz := Lib.hid (T1.out.below hb8)
                have hbt : beginsB recs ((prR o).take (j + 1)) ((su : Nat) : Int) = true := begins_true hpre hsu (Nat.le_refl _)
                have Hrz := Lib.hid (row_take (own_row' (own_n Tz.out.one (prR_length o))) (j + 1))
                have hcp : o.length ≤ c1 := hcap
                have HBg := Lib.hid (begins_any recs ((prR o).take (j + 1)) A8 (some ⟨b, off, none⟩) n8 (j + 1) cap8 c1 ((su : Nat) : Int) w8 hm8 (by rw [List.length_take, prR_length]; omega) hr8 Hrz.out (by omega) hn8)
                rw [hbt] at HBg
                have B8 := Lib.hid (Bw.out.trans (hb8.mono Bw.out.size))
                clear hm8 hn8 hr8 hpre hsu hb8 hz8 HO7 hbt
                go_wp2_with (go_at_call 16; refine HBg.out.mono ?_; rintro e w9 ⟨rfl, hb9⟩; have B9 := Lib.hid (B8.out.trans (hb9.mono B8.out.size)); clear hb9)
                go_ret
                exact ⟨rfl, B9.out⟩
            | false =>
              rw [hfl] at d5
              go_wp2
              go_roundw
              case rel => exact ⟨j + 1, su, by omega, by omega, rfl, by go_num, by go_num, H5.out⟩
              case measure => simp [intOf]; omega
          · have H5 := Lib.hid h5
            clear h5 HP d0 d1 d2 d3 d4
            have HC := Lib.hid (H5.out.crash (Small.take Hsm.out _) (by rw [List.length_take]; omega) kp A2 n2 cap2 Hl2.out (Hrow2.out.below (Bw.out.trans (H5.out.since.mono Bw.out.size)) (Nat.le_refl _)) (fun g off e h0 => Nat.lt_of_lt_of_le (row_block Hrow2.out (by rw [intC_length, Hl2.out]; exact h0) e) Bw.out.size) Hall2.out hmax2)
            go_wp2_with fail
            refine HC.out.mono ?_
            rintro e w7 ⟨rfl, h7⟩
            have HO7 := Lib.hid (h7.opens V)
            clear h7 HC
            go_wp2_with fail
            refine HO7.out.mono ?_
            rintro e w8 ⟨x8, A8, n8, cap8, recs, rfl, hm8, hn8, hr8, hpre, hsu, hb8, hz8⟩
            have Tz := Lib.hid (T1.out.below hb8)
            have hbt : beginsB recs ((prR o).take (j + 1)) ((su : Nat) : Int) = true := begins_true hpre hsu (Nat.le_succ _)
            have Hrz := Lib.hid (row_take (own_row' (own_n Tz.out.one (prR_length o))) (j + 1))
            have hcp : o.length ≤ c1 := hcap
            have HBg := Lib.hid (begins_any recs ((prR o).take (j + 1)) A8 (some ⟨b, off, none⟩) n8 (j + 1) cap8 c1 ((su : Nat) : Int) w8 hm8 (by rw [List.length_take, prR_length]; omega) hr8 Hrz.out (by omega) hn8)
            rw [hbt] at HBg
            have B8 := Lib.hid (Bw.out.trans (hb8.mono Bw.out.size))
            clear hm8 hn8 hr8 hpre hsu hb8 hz8 HO7 hbt
            go_wp2_with (go_at_call 16; refine HBg.out.mono ?_; rintro e w9 ⟨rfl, hb9⟩; have B9 := Lib.hid (B8.out.trans (hb9.mono B8.out.size)); clear hb9)
            go_ret
            exact ⟨rfl, B9.out⟩
        · have hjz : ¬ (j : Int) < (o.length : Int) := by omega
          have H5 := Lib.hid HQ.out.t
          have HC := Lib.hid (H5.out.crash (Small.take Hsm.out _) (by rw [List.length_take]; omega) kp A2 n2 cap2 Hl2.out (Hrow2.out.below (Bw.out.trans (H5.out.since.mono Bw.out.size)) (Nat.le_refl _)) (fun g off e h0 => Nat.lt_of_lt_of_le (row_block Hrow2.out (by rw [intC_length, Hl2.out]; exact h0) e) Bw.out.size) Hall2.out hmax2)
          go_wp2_with fail
          refine HC.out.mono ?_
          rintro e w7 ⟨rfl, h7⟩
          have HO7 := Lib.hid (h7.opens V)
          clear h7 HC
          go_wp2_with fail
          refine HO7.out.mono ?_
          rintro e w8 ⟨x8, A8, n8, cap8, recs, rfl, hm8, hn8, hr8, hpre, hsu, hb8, hz8⟩
          have Tz := Lib.hid (T1.out.below hb8)
          have hbt : beginsB recs ((prR o).take (j)) ((su : Nat) : Int) = true := begins_true hpre hsu (Nat.le_refl _)
          have Hrz := Lib.hid (row_take (own_row' (own_n Tz.out.one (prR_length o))) (j))
          have hcp : o.length ≤ c1 := hcap
          have HBg := Lib.hid (begins_any recs ((prR o).take (j)) A8 A1 n8 (j) cap8 c1 ((su : Nat) : Int) w8 hm8 (by rw [List.length_take, prR_length]; omega) hr8 Hrz.out (by omega) hn8)
          rw [hbt] at HBg
          have B8 := Lib.hid (Bw.out.trans (hb8.mono Bw.out.size))
          clear hm8 hn8 hr8 hpre hsu hb8 hz8 HO7 hbt
          cases A1 with
          | none =>
            go_wp2_with (go_at_call 16; refine HBg.out.mono ?_; rintro e w9 ⟨rfl, hb9⟩; have B9 := Lib.hid (B8.out.trans (hb9.mono B8.out.size)); clear hb9)
            go_ret
            exact ⟨rfl, B9.out⟩
          | some A1 =>
            go_wp2_with (go_at_call 16; refine HBg.out.mono ?_; rintro e w9 ⟨rfl, hb9⟩; have B9 := Lib.hid (B8.out.trans (hb9.mono B8.out.size)); clear hb9)
            go_ret
            exact ⟨rfl, B9.out⟩
end Go.Proofs.YtdneobnnmmlebaaGreatDoor
