/-
  The contract of the program's own Union.
-/
import Derived.Test.YtfjgikcbngfhmaaGF
import Derived.Test.YtfjgikcbngfhmaaGG
namespace Go.Proofs.Ytfjgikcbngfhmaa
open Go.RowKit Go.Shelf

/-- How far the union has come. -/
def Uni (S : List Sp) (i : Nat) (v : Value) (u : List Sp) : Prop :=
  (i = 0 ∧ u = [] ∧ v = .slice none 0 0) ∨ (∃ p t, u = p ++ [t] ∧ unisL S = uniR p t (S.drop i) ∧ p.length + 1 ≤ i)
theorem Uni.done {S u : List Sp} {m : Nat} {v : Value} (h : Uni S m v u) (hm : S.length = m) : u = unisL S := by
  rcases h with ⟨rfl, rfl, _⟩ | ⟨p, t, rfl, h, _⟩
  · cases S with
    | nil => rfl
    | cons _ _ => simp at hm
  · rw [h, List.drop_of_length_le (by omega), uniR_end]
theorem row_spans_rest {w : World} {g cap n : Nat} {l : List Sp} {B : Nat} (h : w.ownsRow B 23 2 (.slice (some ⟨g, 0, none⟩) n cap) n (spC l)) : B ≤ g ∧ n ≤ cap ∧ ∃ rest, Holds w g 23 (spC l ++ rest) := by
  rcases h.2 with ⟨hv, _⟩ | ⟨g', cap', cur, hv, hb, hh, hc, _, _, ht⟩
  · cases hv
  · injection hv with e1 _ e3
    injection e1 with e1
    injection e1 with e1
    subst e1 e3
    refine ⟨hb, hc, cur.toList.drop (n * 2), ?_⟩
    unfold Holds
    rw [hh, ← ht, List.take_append_drop]

theorem quiet_more {P : Program} {f : FuncId} {args : Array Value} {w : World} {a n : Nat} {v : Value} (h : Calls P f args (w.drewN (a + n)) fun e w' => e = .returned v ∧ w' = w.drewN (a + n)) :
    Calls P f args (w.drewN (a + n)) fun e w' => e = .returned v ∧ ∃ m, w' = w.drewN (a + m) := h.mono fun _ _ hh => ⟨hh.1, n, hh.2⟩

set_option maxRecDepth 100000 in
set_option maxHeartbeats 8000000 in
theorem union_any (l : List Sp) (A : Option Addr) (n cap : Nat) (w : World) (hn : l.length = n) (hr : RowAt w A (spC l)) (hn2 : n ≤ 1000) : Calls Try.prog 20 #[.slice A n cap] w (SpRet (unionL l) w) := by
  obtain ⟨i0, hi0, hz0, hz1, hz2⟩ := info_parts infoS
  have HC := Lib.hid (clone_any l A n cap w hn hr hn2)
  have Hn := Lib.hid hn
  clear hr hn
  go_enter Try.func20, Try.ntmps20
  go_wp2_with fail
  refine HC.out.mono ?_
  rintro e w1 ⟨⟨v, rfl, hown, hform⟩, hb1⟩
  clear HC
  rcases hform with rfl | ⟨g, cap1, rfl⟩
  · have hl : l = [] := by
      rcases hown.2 with ⟨_, h⟩ | ⟨_, _, _, hv, _⟩
      · exact List.eq_nil_of_length_eq_zero h
      · cases hv
    have Hl : Hid (unionL l = []) := Lib.hid (by rw [hl]; rfl)
    have Hb1 := Lib.hid hb1
    clear hb1 hown hl
    go_wp2_with (first | (go_at_call 31; refine (delete_none _ _ _).mono ?_; rintro e w' ⟨rfl, rfl⟩) | (go_at_call 34; refine (sort_none _ _ _).mono ?_; rintro e w' ⟨rfl, rfl⟩))
    refine wp_loop_rounds 1 ?_
    rw [rounds_succ]
    go_wp2
    go_ret
    refine ⟨⟨none, 0, 0, rfl, by rw [Hl.out]; rfl, ?_⟩, Hb1.out⟩
    rw [Hl.out]
    intro j v hv
    simp [spC] at hv
  · obtain ⟨hBg, hncap, rest, hrow⟩ := row_spans_rest hown
    have HD := Lib.hid (delete_any l rest g l.length cap1 w.heap.size w1 rfl hrow hBg (by rw [Hn.out]; exact hn2) hncap)
    have Hb1 := Lib.hid hb1
    have Hg1 := Lib.hid hrow.lt
    have HBg := Lib.hid hBg
    clear hb1 hown hrow hncap hBg
    go_wp2_with fail
    refine HD.out.mono ?_
    rintro e w2 ⟨rfl, ⟨rest2, hrow2⟩, hb2⟩
    have hF : (l.filter validL).length ≤ 1000 := Nat.le_trans (List.length_filter_le _ _) (by rw [Hn.out]; exact hn2)
    have HS := Lib.hid (sort_any (l.filter validL) rest2 g _ cap1 w.heap.size w2 rfl hrow2 HBg.out hF)
    have Hb2 := Lib.hid (Hb1.out.trans hb2)
    clear hb2 HD hrow2 Hb1
    go_wp2_with fail
    refine HS.out.mono ?_
    rintro e w3 ⟨rfl, ⟨S, hperm, hord, hrow3⟩, hb3⟩
    have Hm : Hid (S.length = (l.filter validL).length) := Lib.hid hperm.length_eq
    have Hu : Hid (unisL S = unionL l) := Lib.hid (unis_union l S hperm hord)
    have Hrow := Lib.hid hrow3
    have Hb3 := Lib.hid (Hb2.out.trans hb3)
    generalize (l.filter validL).length = m at *
    clear hb3 HS hperm hord hrow3 Hb2
    go_wp2
    go_loopw [4, 15] (fun uv iv wr => ∃ i : Nat, ∃ u : List Sp, i ≤ m ∧ iv = .int .i64 i ∧ u.length ≤ i ∧ wr.ownsRow w3.heap.size 23 2 uv u.length (spC u) ∧ Below w3.heap.size w3 wr ∧ Uni S i uv u) (fun _ iv _ => m - (intOf iv).toNat)
    case atStart => exact ⟨0, [], Nat.zero_le _, rfl, Nat.le_refl _, World.ownsRow_nil _ _ _ _, Below.refl _ _, .inl ⟨rfl, rfl, rfl⟩⟩
    case round =>
      obtain ⟨i, u, hi, rfl, hul, hown, hbel, huni⟩ := hrel
      have Hown := Lib.hid hown
      have Hb := Lib.hid hbel
      have Huni := Lib.hid huni
      clear hown hbel huni
      by_cases hlt : i < m
      · have hlt' : (i : Int) < (m : Int) := by omega
        obtain ⟨s, hs⟩ : ∃ s, S[i]? = some s := ⟨_, List.getElem?_eq_getElem (by rw [Hm.out]; exact hlt)⟩
        obtain ⟨b, off, hA, hbl, c0, c1⟩ := row_span Hrow.out i s hs
        injection hA with hA
        injection hA with hA1 hA2
        subst hA1 hA2
        rw [Nat.zero_add] at c0 c1
        have d0 := (Hb.out.cell (p := ⟨g, i * 2, none⟩) hbl).trans c0
        have d1 := (Hb.out.cell (p := ⟨g, i * 2 + 1, none⟩) hbl).trans c1
        have Hdr : Hid (S.drop i = s :: S.drop (i + 1)) := Lib.hid (by
          obtain ⟨hl, e⟩ := List.getElem?_eq_some_iff.1 hs
          rw [List.drop_eq_getElem_cons hl, e])
        have Hal := Lib.hid (Hb.out.alloc Hb.out.size (.cells #[.string (bs s.1), .string (bs s.2)] 23))
        have Hown' := Lib.hid (own_alloc Hown.out (.cells #[.string (bs s.1), .string (bs s.2)] 23))
        clear c0 c1 hs
        obtain ⟨a, b⟩ := s
        simp only at d0 d1 Hal Hown'
        rcases Huni.out with ⟨h0, h1, h2⟩ | ⟨p, t, h1, h2, h3⟩
        · have H0 := Lib.hid h0
          subst h1 h2
          have Hsz : Hid (∀ q, ((wr.alloc (.cells #[.string (bs a), .string (bs b)] 23)).drewN q).heap.size = wr.heap.size + 1) := Lib.hid (fun q => by simp [World.drewN])
          have Hone : Hid (([] : List Sp).length + 1 ≤ i + 1) := Lib.hid (by simp)
          have Huni' : Hid (unisL S = uniR [] (a, b) (S.drop (i + 1))) := Lib.hid (by
            have e : S = (a, b) :: S.drop (i + 1) := by
              have := Hdr.out
              rw [h0, List.drop_zero] at this
              rw [h0]; exact this
            exact (congrArg unisL e).trans (uniR_first _ _))
          have hneg : decide ((-1 : Int) < 0) = true := rfl
          have Hq : Hid (∀ q, ((wr.alloc (.cells #[.string (bs a), .string (bs b)] 23)).drewN q).ownsRow w3.heap.size 23 2 (.slice none 0 0) 0 []) := Lib.hid (fun q => World.ownsRow_nil _ _ _ _)
          have Hbq : Hid (∀ q, Below w3.heap.size w3 ((wr.alloc (.cells #[.string (bs a), .string (bs b)] 23)).drewN q)) := Lib.hid (fun q => below_drewN Hal.out q)
          clear h0
          go_wp2
          go_quiet (fail)
          go_wp2_with (at_builtin; go_loud (refine wpList_push rfl (.tmp 43) (.tmp 45) 26 rfl w3.heap.size 23 i0 _ 2 32 Try.underlying26 hi0 hz0 hz1 hz2 rfl (by omega) (.slice none 0 0) 0 [] rfl (Hq.out _) #[.string (bs a), .string (bs b)] (by rw [Hsz.out]; rfl) rfl (by simp [Value.oneCell']) (by omega) (by omega) w3 (Hbq.out _) (Hbq.out _).size ?_); intro g2 cap2 w4 hown4 hb4)
          have Hown4 : Hid (w4.ownsRow w3.heap.size 23 2 (.slice (some ⟨g2, 0, none⟩) 1 cap2) [(a, b)].length (spC [(a, b)])) := Lib.hid hown4
          have Hb4 := Lib.hid hb4
          clear hown4 hb4
          go_wp2
          go_roundw
          case rel => exact ⟨i + 1, [(a, b)], by omega, by go_num, by simp, Hown4.out, Hb4.out, .inr ⟨[], (a, b), rfl, Huni'.out, Hone.out⟩⟩
          case measure => simp [intOf]; omega
        · have hpl : u.length = p.length + 1 := by rw [h1]; simp
          have Hpl := Lib.hid hpl
          obtain ⟨g2, cap2, rfl, hg2, hgl2⟩ := Hown.out.form (by omega)
          rw [h1] at Hown Hown'
          have hown1 : wr.ownsRow w3.heap.size 23 2 (.slice (some ⟨g2, 0, none⟩) (p.length + 1) cap2) (p.length + 1) (spC (p ++ [t])) := by
            have := Hown.out; rw [List.length_append] at this; exact this
          obtain ⟨f, e⟩ := t
          have Hst := Lib.hid (fun x => by have := (hown1.stored (p.length * 2 + 1) (.string (bs x))).1; rw [spC_set] at this; exact this)
          have g0 : wr.cell? ⟨g2, p.length * 2 + 1, none⟩ = some (.string (bs e)) := by
            rw [hown1.cellAt _ (by omega)]
            exact (spC_at (p ++ [(f, e)]) p.length (f, e) (by simp)).2
          have Hcell : Hid (∀ q, ((wr.alloc (.cells #[.string (bs a), .string (bs b)] 23)).drewN q).cell? ⟨g2, p.length * 2 + 1, none⟩ = some (.string (bs e))) := Lib.hid (fun q => (below_drewN ((Below.refl wr.heap.size wr).alloc (Nat.le_refl _) _) q).cell (p := ⟨g2, p.length * 2 + 1, none⟩) hgl2 |>.trans g0)
          have f1 := hown1.frozenAt (p.length * 2 + 1)
          have Hfro : Hid (∀ q, ((wr.alloc (.cells #[.string (bs a), .string (bs b)] 23)).drewN q).frozen? ⟨g2, p.length * 2 + 1, none⟩ = false) := Lib.hid (fun q => (below_drewN ((Below.refl wr.heap.size wr).alloc (Nat.le_refl _) _) q).frozen (p := ⟨g2, p.length * 2 + 1, none⟩) hgl2 |>.trans f1)
          have Hsz : Hid (∀ q, ((wr.alloc (.cells #[.string (bs a), .string (bs b)] 23)).drewN q).heap.size = wr.heap.size + 1) := Lib.hid (fun q => by simp [World.drewN])
          have Hbq : Hid (∀ q, Below w3.heap.size w3 ((wr.alloc (.cells #[.string (bs a), .string (bs b)] 23)).drewN q)) := Lib.hid (fun q => below_drewN Hal.out q)
          have Hoq : Hid (∀ q, ((wr.alloc (.cells #[.string (bs a), .string (bs b)] 23)).drewN q).ownsRow w3.heap.size 23 2 (.slice (some ⟨g2, 0, none⟩) (p.length + 1) cap2) (p.length + 1) (spC (p ++ [(f, e)]))) := Lib.hid (fun q => own_alloc hown1 _)
          rw [Hdr.out] at h2
          have Hrest := Lib.hid h2
          have Hpi := Lib.hid h3
          have Hg2 := Lib.hid hg2
          have Hgl2 := Lib.hid hgl2
          have HO := Lib.hid (fun W => sooner_any e b W)
          have hne : (wr.heap.size == g2) = false := beq_eq_false_iff_ne.2 (by omega)
          generalize hk : p.length = k at *
          have Hk := Lib.hid hk
          have hki : k + 1 ≤ i := h3
          rw [hpl]
          have hneg : decide ((k : Int) < 0) = false := decide_eq_false (by omega)
          have hik : (k : Int) < (k : Int) + 1 := by omega
          have hk0 : (0 : Int) ≤ (k : Int) := by omega
          clear h1 h2 h3 hpl Hpl hown1 Hown Hown' Huni hk hg2 hul
          cases he : e.isEmpty with
          | true =>
            have hemp : (bs e).toList.isEmpty = true := by rw [bs_toList]; exact he
            have Hgap : Hid (gapL e a = false) := Lib.hid (by unfold gapL; rw [he]; rfl)
            clear he
            cases hso : soonL e b with
            | true =>
              rw [hso] at HO
              have Huni' : Hid (unisL S = uniR p (f, b) (S.drop (i + 1))) := Lib.hid (by rw [Hrest.out]; exact uniR_on p (f, e) (a, b) _ Hgap.out hso)
              have Hown4 : Hid (∀ q, (((wr.alloc (.cells #[.string (bs a), .string (bs b)] 23)).drewN q).setCell ⟨g2, k * 2 + 1, none⟩ (.string (bs b))).ownsRow w3.heap.size 23 2 (.slice (some ⟨g2, 0, none⟩) (k + 1) cap2) (p ++ [(f, b)]).length (spC (p ++ [(f, b)]))) := Lib.hid (fun q => by
                have := ((Hoq.out q).stored (k * 2 + 1) (.string (bs b))).1
                rw [← Hk.out, spC_set, Hk.out] at this
                rw [List.length_append, Hk.out]
                exact this)
              have Hb4 : Hid (∀ q, Below w3.heap.size w3 (((wr.alloc (.cells #[.string (bs a), .string (bs b)] 23)).drewN q).setCell ⟨g2, k * 2 + 1, none⟩ (.string (bs b)))) := Lib.hid (fun q => (Hbq.out q).setCell (p := ⟨g2, k * 2 + 1, none⟩) Hg2.out _)
              clear hso
              go_wp2
              go_quiet (fail)
              go_wp2
              go_quiet ((go_at_call 28; exact quiet_more (HO.out _)))
              go_wp2
              go_roundw
              case rel => exact ⟨i + 1, p ++ [(f, b)], by omega, by go_num, by have := Hk.out; simp; omega, Hown4.out _, Hb4.out _, .inr ⟨p, (f, b), rfl, Huni'.out, by have := Hk.out; omega⟩⟩
              case measure => simp [intOf]; omega
            | false =>
              rw [hso] at HO
              have Huni' : Hid (unisL S = uniR p (f, e) (S.drop (i + 1))) := Lib.hid (by rw [Hrest.out]; exact uniR_in p (f, e) (a, b) _ Hgap.out hso)
              have Hown4 : Hid (∀ q, ((wr.alloc (.cells #[.string (bs a), .string (bs b)] 23)).drewN q).ownsRow w3.heap.size 23 2 (.slice (some ⟨g2, 0, none⟩) (k + 1) cap2) (p ++ [(f, e)]).length (spC (p ++ [(f, e)]))) := Lib.hid (fun q => by
                have := Hoq.out q
                rw [List.length_append, Hk.out]
                exact this)
              clear hso
              go_wp2
              go_quiet (fail)
              go_wp2
              go_quiet ((go_at_call 28; exact quiet_more (HO.out _)))
              go_wp2
              go_roundw
              case rel => exact ⟨i + 1, p ++ [(f, e)], by omega, by go_num, by have := Hk.out; simp; omega, Hown4.out _, Hbq.out _, .inr ⟨p, (f, e), rfl, Huni'.out, by have := Hk.out; omega⟩⟩
              case measure => simp [intOf]; omega
          | false =>
            have hemp : (bs e).toList.isEmpty = false := by rw [bs_toList]; exact he
            cases hl : ltL e a with
            | true =>
              have hless : Op.bytesLess (bs e).toList (bs a).toList = true := by rw [less_bs]; exact hl
              have Huni' : Hid (unisL S = uniR (p ++ [(f, e)]) (a, b) (S.drop (i + 1))) := Lib.hid (by rw [Hrest.out]; exact uniR_gap p (f, e) (a, b) _ (by unfold gapL; rw [he, hl]; rfl))
              clear he hl
              go_wp2
              go_quiet (fail)
              go_wp2_with (at_builtin; go_loud (refine wpList_push rfl (.tmp 43) (.tmp 45) 26 rfl w3.heap.size 23 i0 _ 2 32 Try.underlying26 hi0 hz0 hz1 hz2 rfl (by omega) (.slice (some ⟨g2, 0, none⟩) (k + 1) cap2) (k + 1) (spC (p ++ [(f, e)])) rfl (Hoq.out _) #[.string (bs a), .string (bs b)] (by rw [Hsz.out]; rfl) rfl (by simp [Value.oneCell']) (by omega) (by omega) w3 (Hbq.out _) (Hbq.out _).size ?_); intro g4 cap4 w4 hown4 hb4)
              have Hown4 : Hid (w4.ownsRow w3.heap.size 23 2 (.slice (some ⟨g4, 0, none⟩) (k + 1 + 1) cap4) ((p ++ [(f, e)]) ++ [(a, b)]).length (spC ((p ++ [(f, e)]) ++ [(a, b)]))) := Lib.hid (by
                rw [spC_append, List.length_append, List.length_append, Hk.out]
                exact hown4)
              have Hb4 := Lib.hid hb4
              clear hown4 hb4
              go_wp2
              go_roundw
              case rel => exact ⟨i + 1, (p ++ [(f, e)]) ++ [(a, b)], by omega, by go_num, by have := Hk.out; simp; omega, Hown4.out, Hb4.out, .inr ⟨p ++ [(f, e)], (a, b), rfl, Huni'.out, by have := Hk.out; simp; omega⟩⟩
              case measure => simp [intOf]; omega
            | false =>
              have hless : Op.bytesLess (bs e).toList (bs a).toList = false := by rw [less_bs]; exact hl
              have Hgap : Hid (gapL e a = false) := Lib.hid (by unfold gapL; rw [hl]; simp)
              clear he hl
              cases hso : soonL e b with
              | true =>
                rw [hso] at HO
                have Huni' : Hid (unisL S = uniR p (f, b) (S.drop (i + 1))) := Lib.hid (by rw [Hrest.out]; exact uniR_on p (f, e) (a, b) _ Hgap.out hso)
                have Hown4 : Hid (∀ q, (((wr.alloc (.cells #[.string (bs a), .string (bs b)] 23)).drewN q).setCell ⟨g2, k * 2 + 1, none⟩ (.string (bs b))).ownsRow w3.heap.size 23 2 (.slice (some ⟨g2, 0, none⟩) (k + 1) cap2) (p ++ [(f, b)]).length (spC (p ++ [(f, b)]))) := Lib.hid (fun q => by
                  have := ((Hoq.out q).stored (k * 2 + 1) (.string (bs b))).1
                  rw [← Hk.out, spC_set, Hk.out] at this
                  rw [List.length_append, Hk.out]
                  exact this)
                have Hb4 : Hid (∀ q, Below w3.heap.size w3 (((wr.alloc (.cells #[.string (bs a), .string (bs b)] 23)).drewN q).setCell ⟨g2, k * 2 + 1, none⟩ (.string (bs b)))) := Lib.hid (fun q => (Hbq.out q).setCell (p := ⟨g2, k * 2 + 1, none⟩) Hg2.out _)
                clear hso
                go_wp2
                go_quiet (fail)
                go_wp2
                go_quiet ((go_at_call 28; exact quiet_more (HO.out _)))
                go_wp2
                go_roundw
                case rel => exact ⟨i + 1, p ++ [(f, b)], by omega, by go_num, by have := Hk.out; simp; omega, Hown4.out _, Hb4.out _, .inr ⟨p, (f, b), rfl, Huni'.out, by have := Hk.out; omega⟩⟩
                case measure => simp [intOf]; omega
              | false =>
                rw [hso] at HO
                have Huni' : Hid (unisL S = uniR p (f, e) (S.drop (i + 1))) := Lib.hid (by rw [Hrest.out]; exact uniR_in p (f, e) (a, b) _ Hgap.out hso)
                have Hown4 : Hid (∀ q, ((wr.alloc (.cells #[.string (bs a), .string (bs b)] 23)).drewN q).ownsRow w3.heap.size 23 2 (.slice (some ⟨g2, 0, none⟩) (k + 1) cap2) (p ++ [(f, e)]).length (spC (p ++ [(f, e)]))) := Lib.hid (fun q => by
                  have := Hoq.out q
                  rw [List.length_append, Hk.out]
                  exact this)
                clear hso
                go_wp2
                go_quiet (fail)
                go_wp2
                go_quiet ((go_at_call 28; exact quiet_more (HO.out _)))
                go_wp2
                go_roundw
                case rel => exact ⟨i + 1, p ++ [(f, e)], by omega, by go_num, by have := Hk.out; simp; omega, Hown4.out _, Hbq.out _, .inr ⟨p, (f, e), rfl, Huni'.out, by have := Hk.out; omega⟩⟩
                case measure => simp [intOf]; omega
      · have hlt' : ¬ (i : Int) < (m : Int) := by omega
        have Hfin : Hid (u = unionL l) := Lib.hid (by
          rw [← Hu.out]
          obtain rfl : i = m := by omega
          exact Huni.out.done Hm.out)
        go_wp2
        go_ret
        obtain ⟨A2, cap2, rfl, hrow⟩ := own_row Hown.out
        refine ⟨⟨A2, u.length, cap2, rfl, by rw [Hfin.out], by rw [← Hfin.out]; exact hrow⟩, Hb3.out.trans (Hb.out.mono Hb3.out.size)⟩
end Go.Proofs.Ytfjgikcbngfhmaa
