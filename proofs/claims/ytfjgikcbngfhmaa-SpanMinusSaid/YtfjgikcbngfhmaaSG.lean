/-
  The contract of the reference's Ends.
-/
import Derived.Test.YtfjgikcbngfhmaaSF
import Derived.Deep.RegionHeld3
namespace Go.Proofs.Ytfjgikcbngfhmaa
open Go.RowKit

theorem own_base {w : World} {B B' : Nat} {e : TypeId} {k : Nat} {v : Value} {n : Nat} {cs : List Value} (h : w.ownsRow B e k v n cs) (hB : B' ≤ B) : w.ownsRow B' e k v n cs := by
  rcases h.2 with h0 | ⟨g, cap, cur, hv, hb, r⟩
  · exact ⟨h.1, .inl h0⟩
  · exact ⟨h.1, .inr ⟨g, cap, cur, hv, by omega, r⟩⟩
/-- A row of the call's own is kept where only new blocks are written. -/
theorem own_below {w w' : World} {B : Nat} {e : TypeId} {k : Nat} {v : Value} {n : Nat} {cs : List Value} (h : w.ownsRow B e k v n cs) (hb : Below w.heap.size w w') : w'.ownsRow B e k v n cs := by
  rcases h.2 with h0 | ⟨g, cap, cur, hv, hbg, hh, r⟩
  · exact ⟨h.1, .inl h0⟩
  · exact ⟨h.1, .inr ⟨g, cap, cur, hv, hbg, (hb.block g (Array.getElem?_eq_some_iff.1 hh).1).trans hh, r⟩⟩
theorem putL_length (s : List UInt8) : ∀ l : List (List UInt8), (putL l s).length ≤ l.length + 1
  | [] => by simp [putL]
  | e :: r => by
    unfold putL
    split
    · simp
    · split
      · simp
      · have := putL_length s r; simp; omega

set_option maxRecDepth 100000 in
set_option maxHeartbeats 4000000 in
theorem refends_any (l : List Sp) (A : Option Addr) (n cap : Nat) (w : World) (hn : l.length = n) (hr : RowAt w A (spC l)) (hn2 : n ≤ 100000) :
    Calls Try.prog 29 #[.slice A n cap] w fun e w' => ∃ v, e = .returned v ∧ OwnT w' w.heap.size v (endsL l) ∧ (endsL l).length ≤ 1 + 2 * n ∧ Below w.heap.size w w' := by
  have Hr := Lib.hid hr
  have Hn := Lib.hid hn
  have H0 : Hid (endsL l = (l.drop 0).foldl endF [[]]) := Lib.hid (by rw [List.drop_zero]; rfl)
  have Ho0 : Hid (OwnT (w.alloc (.cells #[.string { data := #[] }] 9)) w.heap.size (.slice (some ⟨w.heap.size, 0, none⟩) 1 1) [[]]) := Lib.hid (by
    have := World.ownsRow_lit (base := w.heap.size) (e := 9) (size := 1) w #[.string { data := #[] }] 1 (Nat.le_refl _) (by unfold maxLen; omega) rfl
    have e : strC [[]] = [.string { data := #[] }] := by unfold strC; rw [List.map_cons, List.map_nil, bs_eq]
    unfold OwnT
    rw [e]
    exact this)
  clear hr hn
  go_enter Try.func29, Try.ntmps29
  go_wp2
  go_loopw [3, 4] (fun ov iv wr => ∃ i : Nat, ∃ o : List (List UInt8), i ≤ n ∧ iv = .int .i64 i ∧ o.length ≤ 1 + 2 * i ∧ OwnT wr w.heap.size ov o ∧ Below w.heap.size w wr ∧ endsL l = (l.drop i).foldl endF o) (fun _ iv _ => n - (intOf iv).toNat)
  case atStart => exact ⟨0, [[]], by omega, rfl, by simp, Ho0.out, (Below.refl _ _).alloc (Nat.le_refl _) _, H0.out⟩
  case round =>
    obtain ⟨i, o, hi, rfl, hol, hown, hb, hends⟩ := hrel
    have Hb := Lib.hid hb
    have Hends := Lib.hid hends
    clear hb hends H0 Ho0
    by_cases hlt : i < n
    · have hlt' : (i : Int) < (n : Int) := by omega
      obtain ⟨s, hs⟩ : ∃ s, l[i]? = some s := ⟨_, List.getElem?_eq_getElem (by rw [Hn.out]; exact hlt)⟩
      obtain ⟨b, off, rfl, hbl, c0, c1⟩ := row_span Hr.out i s hs
      have d0 := (Hb.out.cell (p := ⟨b, off + i * 2, none⟩) hbl).trans c0
      have d1 := (Hb.out.cell (p := ⟨b, off + i * 2 + 1, none⟩) hbl).trans c1
      have hbw : b < wr.heap.size := Nat.lt_of_lt_of_le hbl Hb.out.size
      have Hdr : Hid ((l.drop i).foldl endF o = (l.drop (i + 1)).foldl endF (endF o s)) := Lib.hid (by
        obtain ⟨hl, rfl⟩ := List.getElem?_eq_some_iff.1 hs
        rw [List.drop_eq_getElem_cons hl]; rfl)
      have Hv := Lib.hid (refvalid_any s)
      unfold spV at Hv
      have Hown := Lib.hid hown
      clear c0 c1 hs hown
      cases hv : validL s with
      | false =>
        rw [hv] at Hv
        have Hnx : Hid (endsL l = (l.drop (i + 1)).foldl endF o) := Lib.hid (by rw [Hends.out, Hdr.out]; unfold endF; rw [if_neg (by rw [hv]; simp)])
        clear Hends Hdr hv
        go_wp2_with (go_at_call 13; refine (Hv.out _).mono ?_; rintro e w1 ⟨rfl, hb1⟩; replace hb1 := Lib.hid hb1)
        go_roundw
        case rel => exact ⟨i + 1, o, by omega, by go_num, by omega, own_below Hown.out hb1.out, Hb.out.trans (hb1.out.mono Hb.out.size), Hnx.out⟩
        case measure => simp [intOf]; omega
      | true =>
        rw [hv] at Hv
        have Hnx : Hid (endsL l = (l.drop (i + 1)).foldl endF (putL (putL o s.1) s.2)) := Lib.hid (by rw [Hends.out, Hdr.out]; unfold endF; rw [if_pos hv])
        have Hl1 := Lib.hid (putL_length s.1 o)
        have Hl2 := Lib.hid (putL_length s.2 (putL o s.1))
        clear Hends Hdr hv
        go_wp2_with (go_at_call 13; refine (Hv.out _).mono ?_; rintro e w1 ⟨rfl, hb1⟩; have e0 := (hb1.cell (p := ⟨b, off + i * 2, none⟩) hbw).trans d0; have e1 := (hb1.cell (p := ⟨b, off + i * 2 + 1, none⟩) hbw).trans d1; replace hb1 := Lib.hid hb1)
        obtain ⟨A1, cap1, rfl, hr1⟩ := own_row (own_below Hown.out hb1.out)
        have Hr1 := Lib.hid hr1
        have hbw1 : b < w1.heap.size := Nat.lt_of_lt_of_le hbw hb1.out.size
        clear hr1
        go_region_held3 (fun w' => w'.cell? ⟨b, off + i * 2, none⟩ = some (.string (bs s.1)) ∧ w'.cell? ⟨b, off + i * 2 + 1, none⟩ = some (.string (bs s.2)))
          (first
            | exact ⟨e0, e1⟩
            | exact ⟨(hb5.out.cell (p := ⟨b, off + i * 2, none⟩) (Nat.lt_of_lt_of_le hbw1 hb4.out.size)).trans ((hb4.out.cell (p := ⟨b, off + i * 2, none⟩) hbw1).trans e0), (hb5.out.cell (p := ⟨b, off + i * 2 + 1, none⟩) (Nat.lt_of_lt_of_le hbw1 hb4.out.size)).trans ((hb4.out.cell (p := ⟨b, off + i * 2 + 1, none⟩) hbw1).trans e1)⟩
            | exact ⟨(hb4.out.cell (p := ⟨b, off + i * 2, none⟩) hbw1).trans e0, (hb4.out.cell (p := ⟨b, off + i * 2 + 1, none⟩) hbw1).trans e1⟩)
          (first
            | (go_at_call 41; refine (refput_any _ A2 (putL o s.1).length cap2 s.2 w4 rfl Hr4.out (by have := Hl1.out; omega)).mono ?_; rintro e w5 ⟨v5, rfl, ho5, hb5⟩; replace ho5 := Lib.hid ho5; replace hb5 := Lib.hid hb5)
            | (go_at_call 41; refine (refput_any o A1 o.length cap1 s.1 w1.drew rfl Hr1.out (by omega)).mono ?_; rintro e w4 ⟨v4, rfl, ho4, hb4⟩; replace hb4 := Lib.hid hb4; obtain ⟨A2, cap2, rfl, hr4⟩ := own_row ho4; have Hr4 := Lib.hid hr4; clear ho4 hr4))
        all_goals
          have Hb4 : Hid (Below wr.heap.size wr w4) := Lib.hid (hb1.out.trans ((Below.refl _ _).drew.trans hb4.out |>.mono hb1.out.size))
          have Hb5 : Hid (Below w.heap.size w w5) := Lib.hid (Hb.out.trans ((Hb4.out.trans (hb5.out.mono Hb4.out.size)).mono Hb.out.size))
          have Hbase : Hid (w.heap.size ≤ w4.heap.size) := Lib.hid (Nat.le_trans Hb.out.size Hb4.out.size)
          have Hown5 : Hid (OwnT w5 w.heap.size v5 (putL (putL o s.1) s.2)) := Lib.hid (own_base ho5.out Hbase.out)
          clear hb1 hb4 hb5 ho5 Hr1 Hr4 Hb4
          go_wp2
          go_roundw
          case rel => exact ⟨i + 1, _, by omega, by go_num, by have := Hl1.out; have := Hl2.out; omega, Hown5.out, Hb5.out, Hnx.out⟩
          case measure => simp [intOf]; omega
    · have hlt' : ¬ (i : Int) < (n : Int) := by omega
      have Hfin : Hid (endsL l = o) := Lib.hid (by rw [Hends.out, List.drop_eq_nil_of_le (by rw [Hn.out]; omega)]; rfl)
      have Hown := Lib.hid hown
      clear hown
      go_wp2
      go_ret
      exact ⟨_, rfl, by rw [Hfin.out]; exact Hown.out, by rw [Hfin.out]; omega, Hb.out⟩
end Go.Proofs.Ytfjgikcbngfhmaa
