/-
  The contracts of truncate and kept.
-/
import Derived.Test.YtbgfkjafablfiaaDC
namespace Go.Proofs.Ytbgfkjafablfiaa
open Go.RowKit Go.Maps

section
variable {w w' : World} {r : Nat} {mb : Option Nat} {gm : List UInt8 → Nat} {vm : List UInt8 → Value} {s : St}
/-- The first m bytes of a row. -/
theorem own_cut {v : Value} {n m : Nat} {l : List UInt8} (h : w.ownsRow 0 5 1 v n (byC l)) (hm : m ≤ n) : (v = .slice none 0 0 ∧ n = 0) ∨ ∃ g cap, v = .slice (some ⟨g, 0, none⟩) n cap ∧ n ≤ cap ∧ cap ≤ maxLen ∧ w.ownsRow 0 5 1 (.slice (some ⟨g, 0, none⟩) m cap) m (byC (l.take m)) := by
  rcases h.2 with h0 | ⟨g, cap, cur, rfl, hb, hh, hc, hcm, hcs, ht⟩
  · exact .inl h0
  · refine .inr ⟨g, cap, rfl, hc, hcm, ?_, .inr ⟨g, cap, cur, rfl, hb, hh, by omega, hcm, hcs, ?_⟩⟩
    · have := h.1
      rw [byC_length] at this ⊢
      rw [List.length_take]; omega
    · rw [← byC_take, ← ht, List.take_take]; congr 1; omega
theorem cutF_all (n : Nat) (f : Fl) : (cutF n f).2.1 ++ (cutF n f).2.2 = (f.2.1 ++ f.2.2).take n := by
  show (f.2.1 ++ f.2.2).take (min n f.2.1.length) ++ ((f.2.1 ++ f.2.2).take n).drop (min n f.2.1.length) = _
  have : (f.2.1 ++ f.2.2).take (min n f.2.1.length) = ((f.2.1 ++ f.2.2).take n).take (min n f.2.1.length) := by
    rw [List.take_take]; congr 1; omega
  rw [this, List.take_append_drop]
theorem cutF_size {n : Nat} {f : Fl} (h : n ≤ sizeF f) : sizeF (cutF n f) = n := by
  have := congrArg List.length (cutF_all n f)
  rw [List.length_append, List.length_take, List.length_append] at this
  unfold sizeF at h ⊢; omega
theorem cutF_done {n : Nat} {f : Fl} (h : n ≤ sizeF f) : (cutF n f).2.1.length = min f.2.1.length n := by
  show ((f.2.1 ++ f.2.2).take (min n f.2.1.length)).length = _
  rw [List.length_take, List.length_append]
  unfold sizeF at h; omega

/-- What truncate leaves. -/
theorem trunc_end (h : DskM w r mb gm vm s) {i : Nat} {f : Fl} (hf : s.files[i]? = some f) (n : Nat) (hn : n ≤ sizeF f) (v' : Value) (hown : w.ownsRow 0 5 1 v' n (byC ((f.2.1 ++ f.2.2).take n))) (hv : ∀ k, v'.ownBlock = some k → (vm f.1).ownBlock = some k)
    (x y : Int) (hx : x = (usedL s.files : Int) - ((sizeF f : Int) - n)) (hy : y = min (f.2.1.length : Int) n) (q : Nat) :
    DskM (((w.drewN q).setCell ⟨r, 1, none⟩ (.int .i64 x)).setCell ⟨gm f.1, 0, none⟩ v' |>.setCell ⟨gm f.1, 1, none⟩ (.int .i64 y)) r mb gm (upd vm f.1 v') { s with files := s.files.modify i fun _ => cutF n f } ∧
    Only (fun k => k = r ∨ k = gm f.1) w (((w.drewN q).setCell ⟨r, 1, none⟩ (.int .i64 x)).setCell ⟨gm f.1, 0, none⟩ v' |>.setCell ⟨gm f.1, 1, none⟩ (.int .i64 y)) ∧
    (∀ k, FootM r mb gm (upd vm f.1 v') (s.files.modify i fun _ => cutF n f) k → FootM r mb gm vm s.files k ∨ w.heap.size ≤ k) := by
  have hfm := List.mem_of_getElem? hf
  have ho : Only (fun k => k = r ∨ k = gm f.1) w (((w.drewN q).setCell ⟨r, 1, none⟩ (.int .i64 x)).setCell ⟨gm f.1, 0, none⟩ v' |>.setCell ⟨gm f.1, 1, none⟩ (.int .i64 y)) :=
    (((((Only.refl _ w).drewN q).setCell ⟨r, 1, none⟩ _ (.inl (.inl rfl)))).setCell ⟨gm f.1, 0, none⟩ _ (.inl (.inr rfl))).setCell ⟨gm f.1, 1, none⟩ _ (.inl (.inr rfl))
  have hne : r ≠ gm f.1 := h.r_ne_g hfm
  have hu := used_modify (f' := cutF n f) hf
  rw [cutF_size hn] at hu
  have hus := size_used hf
  have hsz : sizeF f = f.2.1.length + f.2.2.length := rfl
  have hbox : Holds (((w.drewN q).setCell ⟨r, 1, none⟩ (.int .i64 x)).setCell ⟨gm f.1, 0, none⟩ v' |>.setCell ⟨gm f.1, 1, none⟩ (.int .i64 y)) r 58 (boxC mb { s with files := s.files.modify i fun _ => cutF n f }) := by
    refine Holds.aside (Holds.aside ?_ hne _) hne _
    have := (h.box.drewN' q).set 1 (.int .i64 x)
    refine cast (congrArg (Holds _ r 58) ?_) this
    show [Value.map mb, .int .i64 x, _, _, _, _] = [Value.map mb, .int .i64 (usedL (s.files.modify i fun _ => cutF n f) : Nat), _, _, _, _]
    rw [show x = ((usedL (s.files.modify i fun _ => cutF n f) : Nat) : Int) by omega]
  have hfil : FilM (((w.drewN q).setCell ⟨r, 1, none⟩ (.int .i64 x)).setCell ⟨gm f.1, 0, none⟩ v' |>.setCell ⟨gm f.1, 1, none⟩ (.int .i64 y)) (gm f.1) v' (cutF n f) := by
    refine ⟨?_, ?_⟩
    · have h1 := (Holds.aside ((h.fil f hfm).box.drewN' q) (a := ⟨r, 1, none⟩) (Ne.symm hne) (.int .i64 x))
      have h2 := (h1.set 0 v').set 1 (.int .i64 y)
      refine cast (congrArg (Holds _ _ 74) ?_) h2
      show [v', .int .i64 y] = [v', .int .i64 ((cutF n f).2.1.length : Int)]
      rw [cutF_done hn, hy, show ((min f.2.1.length n : Nat) : Int) = min (f.2.1.length : Int) n by omega]
    · rw [cutF_size hn, cutF_all]
      exact own_only hown ho fun j hj => fun e => by
        rcases hj with rfl | rfl
        · exact h.r_ne_v hfm (hv _ e) rfl
        · exact h.g_ne_v hfm hfm (hv _ e) rfl
  obtain ⟨h1, h2⟩ := h.turn (s' := { s with files := s.files.modify i fun _ => cutF n f }) hf (show (cutF n f).1 = f.1 from rfl) rfl ho (fun k hk => by rcases hk with e | e; exact .inl e; exact .inr (.inl e)) hbox hfil (fun k hk => .inl (hv k hk))
  exact ⟨h1, ho, h2⟩

set_option maxRecDepth 100000 in
set_option maxHeartbeats 4000000 in
theorem trunc_m (h : DskM w r mb gm vm s) (hfit : Fit s) {i : Nat} {f : Fl} (hf : s.files[i]? = some f) (n : Nat) (hn : n ≤ sizeF f) : Calls Try.prog 37 #[.pointer (some ⟨r, 0, none⟩), .pointer (some ⟨gm f.1, 0, none⟩), .int .i64 (n : Int)] w fun e w' => e = .returned (.tuple #[]) ∧
    ∃ v', DskM w' r mb gm (upd vm f.1 v') { s with files := s.files.modify i fun _ => cutF n f } ∧ Only (fun k => k = r ∨ k = gm f.1) w w' ∧ (∀ k, FootM r mb gm (upd vm f.1 v') (s.files.modify i fun _ => cutF n f) k → FootM r mb gm vm s.files k ∨ w.heap.size ≤ k) := by
  have hfm := List.mem_of_getElem? hf
  have hfil := h.fil f hfm
  have hne : r ≠ gm f.1 := h.r_ne_g hfm
  have hne' : gm f.1 ≠ r := hne.symm
  obtain ⟨_, c1, _, _, _, _⟩ := h.cells
  have f1 := h.box.frozen 1
  have g0 := hfil.box.frozen 0
  have g1 := hfil.box.frozen 1
  have hu := hfit.used
  have hus := size_used hf
  have hsz : sizeF f = f.2.1.length + f.2.2.length := rfl
  have d1 : w.cell? ⟨gm f.1, 0 + 1, none⟩ = some (.int .i64 (f.2.1.length : Int)) := hfil.box.cell rfl
  have d0 : w.cell? ⟨gm f.1, 0, none⟩ = some (vm f.1) := hfil.box.cell rfl
  rcases own_cut hfil.own hn with ⟨hv, h0⟩ | ⟨g, cap, hv, hc, hcm, hown⟩
  · rw [hv] at d0
    obtain rfl : n = 0 := by omega
    have hv0 : w.ownsRow 0 5 1 (.slice none 0 0) 0 (byC ((f.2.1 ++ f.2.2).take 0)) := by
      rw [List.take_zero, byC_eq]; exact World.ownsRow_nil _ _ _ _
    have hd0 : f.2.1.length = 0 := by omega
    have HE := Lib.hid (trunc_end h hf 0 hn (.slice none 0 0) hv0 (fun k hk => by simp [Value.ownBlock] at hk))
    rw [hd0] at d1
    rw [hd0, h0] at HE
    generalize gm f.1 = gg at *
    generalize usedL s.files = us at *
    clear hv0 hfil h hfit hf hfm hv hd0 h0 hn hsz hus
    go_enter Try.func37, Try.ntmps37
    go_wp2
    go_region
    all_goals
      go_wp2
      go_end0
      exact ⟨rfl, _, HE.out _ _ (by first | rfl | omega) (by first | rfl | omega) 1⟩
  · rw [hv] at d0
    have HE := Lib.hid (trunc_end h hf n hn (.slice (some ⟨g, 0, none⟩) n cap) hown (fun k hk => by rw [hv]; exact hk))
    generalize gm f.1 = gg at *
    generalize sizeF f = sz at *
    generalize f.2.1.length = dn at *
    generalize usedL s.files = us at *
    clear hown hfil h hfit hf hfm hv
    go_enter Try.func37, Try.ntmps37
    go_wp2
    go_region
    all_goals
      go_wp2
      go_end0
      exact ⟨rfl, _, HE.out _ _ (by first | rfl | omega) (by first | rfl | omega) 1⟩
end
end Go.Proofs.Ytbgfkjafablfiaa
