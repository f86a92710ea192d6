/-
  The contracts of Sync and Cut.
-/
import Derived.Test.YtbgfkjafablfiaaDE
namespace Go.Proofs.Ytbgfkjafablfiaa
open Go.RowKit Go.Maps

section
variable {w w' : World} {r : Nat} {mb : Option Nat} {gm : List UInt8 → Nat} {vm : List UInt8 → Value} {s s' : St}
/-- What an operation leaves. -/
def OpRet (x : Value) (r : Nat) (mb : Option Nat) (gm : List UInt8 → Nat) (vm : List UInt8 → Value) (s s' : St) (w : World) (e : Ending) (w' : World) : Prop :=
  e = .returned x ∧ Got w (FootM r mb gm vm s.files) r s' w'
theorem got_box (h : DskM w' r mb gm vm s') (hs : s'.files = s.files) (ho : Only (fun k => k = r) w w') : Got w (FootM r mb gm vm s.files) r s' w' :=
  ⟨mb, gm, vm, h, ho.mono (fun _ e => .inl e), fun k hk => .inl (by rw [hs] at hk; exact hk)⟩
theorem got_same (h : DskM w r mb gm vm s) : Got w (FootM r mb gm vm s.files) r s w := got_box h rfl (Only.refl _ _)
theorem burn_fit (h : Fit s) : Fit (burnS s) := ⟨h.room0, h.room1, by show -1 ≤ (if 0 < s.fuse then s.fuse - 1 else s.fuse); have := h.fuse0; split <;> omega, by show (if 0 < s.fuse then s.fuse - 1 else s.fuse) ≤ _; have := h.fuse1; split <;> omega, h.used, h.len⟩
theorem sync_end (h : DskM w r mb gm vm s) {i : Nat} {f : Fl} (hf : s.files[i]? = some f) (x : Int) (hx : x = (sizeF f : Nat)) :
    DskM (w.setCell ⟨gm f.1, 1, none⟩ (.int .i64 x)) r mb gm (upd vm f.1 (vm f.1)) { s with files := s.files.modify i fun _ => syncF f } ∧
    Only (fun k => k = gm f.1) w (w.setCell ⟨gm f.1, 1, none⟩ (.int .i64 x)) ∧
    (∀ k, FootM r mb gm (upd vm f.1 (vm f.1)) (s.files.modify i fun _ => syncF f) k → FootM r mb gm vm s.files k ∨ w.heap.size ≤ k) := by
  have hfm := List.mem_of_getElem? hf
  have ho := only_set w (gm f.1) 1 (.int .i64 x)
  have hsz : sizeF (syncF f) = sizeF f := by unfold sizeF syncF; simp
  have hu := used_modify (f' := syncF f) hf
  rw [hsz] at hu
  have hbox : Holds (w.setCell ⟨gm f.1, 1, none⟩ (.int .i64 x)) r 58 (boxC mb { s with files := s.files.modify i fun _ => syncF f }) := by
    refine cast (congrArg (Holds _ r 58) ?_) (Holds.aside h.box (a := ⟨gm f.1, 1, none⟩) (h.r_ne_g hfm) (.int .i64 x))
    unfold boxC
    simp only
    rw [show usedL (s.files.modify i fun _ => syncF f) = usedL s.files by omega]
  have hfil : FilM (w.setCell ⟨gm f.1, 1, none⟩ (.int .i64 x)) (gm f.1) (vm f.1) (syncF f) := by
    refine ⟨?_, ?_⟩
    · refine cast (congrArg (Holds _ _ 74) ?_) ((h.fil f hfm).box.set 1 (.int .i64 x))
      show [vm f.1, .int .i64 x] = [vm f.1, .int .i64 ((f.2.1 ++ f.2.2).length : Nat)]
      rw [hx, List.length_append]; rfl
    · rw [hsz, show (syncF f).2.1 ++ (syncF f).2.2 = f.2.1 ++ f.2.2 by unfold syncF; simp]
      exact own_only (h.fil f hfm).own ho fun j hj e => h.g_ne_v hfm hfm e hj.symm
  obtain ⟨h1, h2⟩ := h.turn (s' := { s with files := s.files.modify i fun _ => syncF f }) hf (show (syncF f).1 = f.1 from rfl) rfl ho (fun k hk => .inr (.inl hk)) hbox hfil (fun k hk => .inl hk)
  exact ⟨h1, ho, h2⟩

set_option maxRecDepth 100000 in
set_option maxHeartbeats 4000000 in
theorem sync_m (h : DskM w r mb gm vm s) (hfit : Fit s) {nm : List UInt8} (hnm : nm.length ≤ 9223372036854775807) :
    Calls Try.prog 15 #[.pointer (some ⟨r, 0, none⟩), .string (bs nm)] w (OpRet (.int .i64 (syncS nm s).1) r mb gm vm s (syncS nm s).2 w) := by
  have HF := Lib.hid (find_m h hnm)
  have H := Lib.hid h
  by_cases ho : s.off = true
  · have hr : syncS nm s = (7, s) := by unfold syncS onS; rw [if_pos ho]
    rw [hr]
    rw [findV_off ho] at HF
    have HP := Lib.hid (perform_err 7 (by decide) (some ⟨r, 0, none⟩))
    clear ho hr h
    go_enter Try.func15, Try.ntmps15
    go_wp2_with (first | (go_at_call 35; refine HF.out.mono ?_; rintro e w' ⟨rfl, rfl⟩) | (go_at_call 32; refine (HP.out _).mono ?_; rintro e w' ⟨rfl, rfl⟩))
    go_ret
    exact ⟨rfl, got_same H.out⟩
  · have ho' := off_false ho
    cases hat : atN nm s.files with
    | none =>
      have hr : syncS nm s = (8, s) := by unfold syncS onS; rw [if_neg ho, hat]
      rw [hr]
      rw [findV_none ho' hat] at HF
      have HP := Lib.hid (perform_err 8 (by decide) (some ⟨r, 0, none⟩))
      clear ho ho' hr h hat
      go_enter Try.func15, Try.ntmps15
      go_wp2_with (first | (go_at_call 35; refine HF.out.mono ?_; rintro e w' ⟨rfl, rfl⟩) | (go_at_call 32; refine (HP.out _).mono ?_; rintro e w' ⟨rfl, rfl⟩))
      go_ret
      exact ⟨rfl, got_same H.out⟩
    | some i =>
      obtain ⟨f, hf, hn⟩ := atN_some hat
      subst hn
      have hr : syncS f.1 s = if (burnS s).off = true then (7, burnS s) else (0, { burnS s with files := s.files.modify i fun _ => syncF f }) := by
        unfold syncS onS; rw [if_neg ho, hat]; simp only; rw [modify_const syncF hf]
      rw [hr]
      rw [findV_some ho' hat] at HF
      have HP := Lib.hid (perform_m h hfit ho')
      by_cases hb : (burnS s).off = true
      · rw [if_pos hb]
        rw [if_pos hb] at HP
        clear ho ho' hr h hat hf hb
        go_enter Try.func15, Try.ntmps15
        go_wp2_with (first | (go_at_call 35; refine HF.out.mono ?_; rintro e w' ⟨rfl, rfl⟩) | (go_at_call 32; refine HP.out.mono ?_; rintro e w1 ⟨rfl, hd1, ho1⟩; have D1 := Lib.hid hd1; have O1 := Lib.hid ho1; clear hd1 ho1))
        go_ret
        exact ⟨rfl, got_box D1.out rfl O1.out⟩
      · rw [if_neg hb]
        rw [if_neg hb] at HP
        have Hf := Lib.hid hf
        obtain ⟨A, cap, hv, _⟩ := own_row (h.fil f (List.mem_of_getElem? hf)).own
        have Hv := Lib.hid hv
        clear ho ho' hr h hat hf hb hv
        go_enter Try.func15, Try.ntmps15
        go_wp2_with (first | (go_at_call 35; refine HF.out.mono ?_; rintro e w' ⟨rfl, rfl⟩) | (go_at_call 32; refine HP.out.mono ?_; rintro e w1 ⟨rfl, hd1, ho1⟩; have D1 := Lib.hid hd1; have O1 := Lib.hid ho1; have hfil := hd1.fil f (List.mem_of_getElem? Hf.out); have d0 : w1.cell? ⟨gm f.1, 0, none⟩ = some (.slice A (sizeF f) cap) := (by rw [← Hv.out]; exact hfil.box.cell rfl); have d1 : w1.cell? ⟨gm f.1, 0 + 1, none⟩ = some (.int .i64 (f.2.1.length : Int)) := hfil.box.cell rfl; have g1 := hfil.box.frozen 1; clear hfil hd1 ho1))
        go_ret
        obtain ⟨h1, h2, h3⟩ := sync_end D1.out Hf.out (sizeF f : Nat) rfl
        refine ⟨rfl, mb, gm, _, h1, (O1.out.mono (fun _ e => .inl e)).trans (h2.mono fun _ e => .inr (.inr ⟨f, List.mem_of_getElem? Hf.out, .inl e⟩)), fun k hk => ?_⟩
        rcases h3 k hk with e | e
        · exact .inl e
        · exact .inr (Nat.le_trans O1.out.size e)
end
end Go.Proofs.Ytbgfkjafablfiaa
