/-
  The contracts of Cut and Remove.
-/
import Derived.Test.YtbgfkjafablfiaaDF
namespace Go.Proofs.Ytbgfkjafablfiaa
open Go.RowKit Go.Maps

section
variable {w w' : World} {r : Nat} {mb : Option Nat} {gm : List UInt8 → Nat} {vm : List UInt8 → Value} {s s' : St}
theorem cut_eq {nm : List UInt8} {n : Int} {i : Nat} {f : Fl} (ho : s.off = false) (hat : atN nm s.files = some i) (hf : s.files[i]? = some f) :
    cutS nm n s = if n < 0 ∨ ((sizeF f : Nat) : Int) < n then (1, s) else if (burnS s).off = true then (7, burnS s) else (0, { burnS s with files := s.files.modify i fun _ => cutF n.toNat f }) := by
  unfold cutS onS cutBad
  rw [if_neg (by rw [ho]; simp), hat]
  simp only [hf]
  by_cases hb : n < 0 ∨ ((sizeF f : Nat) : Int) < n
  · rw [if_pos hb, if_pos hb]
  · rw [if_neg hb, if_neg hb]
    simp only
    rw [modify_const (cutF n.toNat) hf]

set_option maxRecDepth 100000 in
set_option maxHeartbeats 4000000 in
theorem cut_m (h : DskM w r mb gm vm s) (hfit : Fit s) {nm : List UInt8} (hnm : nm.length ≤ 9223372036854775807) (n : Int) (hn : I64 n) :
    Calls Try.prog 21 #[.pointer (some ⟨r, 0, none⟩), .string (bs nm), .int .i64 n] w (OpRet (.int .i64 (cutS nm n s).1) r mb gm vm s (cutS nm n s).2 w) := by
  have HF := Lib.hid (find_m h hnm)
  have H := Lib.hid h
  by_cases ho : s.off = true
  · have hr : cutS nm n s = (7, s) := by unfold cutS onS; rw [if_pos ho]
    rw [hr]
    rw [findV_off ho] at HF
    have HP := Lib.hid (perform_err 7 (by decide) (some ⟨r, 0, none⟩))
    clear ho hr h hn
    go_enter Try.func21, Try.ntmps21
    go_wp2_with (first | (go_at_call 35; refine HF.out.mono ?_; rintro e w' ⟨rfl, rfl⟩) | (go_at_call 32; refine (HP.out _).mono ?_; rintro e w' ⟨rfl, rfl⟩))
    go_ret
    exact ⟨rfl, got_same H.out⟩
  · have ho' := off_false ho
    cases hat : atN nm s.files with
    | none =>
      have hr : cutS nm n s = (8, s) := by unfold cutS onS; rw [if_neg ho, hat]
      rw [hr]
      rw [findV_none ho' hat] at HF
      have HP := Lib.hid (perform_err 8 (by decide) (some ⟨r, 0, none⟩))
      clear ho ho' hr h hat hn
      go_enter Try.func21, Try.ntmps21
      go_wp2_with (first | (go_at_call 35; refine HF.out.mono ?_; rintro e w' ⟨rfl, rfl⟩) | (go_at_call 32; refine (HP.out _).mono ?_; rintro e w' ⟨rfl, rfl⟩))
      go_ret
      exact ⟨rfl, got_same H.out⟩
    | some i =>
      obtain ⟨f, hf, hnf⟩ := atN_some hat
      subst hnf
      rw [cut_eq ho' hat hf]
      rw [findV_some ho' hat] at HF
      have hfil := h.fil f (List.mem_of_getElem? hf)
      obtain ⟨A, cap, hv, _⟩ := own_row hfil.own
      have d0 : w.cell? ⟨gm f.1, 0, none⟩ = some (.slice A (sizeF f) cap) := by rw [← hv]; exact hfil.box.cell rfl
      clear hv hfil
      by_cases hb1 : n < 0 ∨ ((sizeF f : Nat) : Int) < n
      · rw [if_pos hb1]
        have HP := Lib.hid (perform_err 1 (by decide) (some ⟨r, 0, none⟩))
        rcases hb1 with hb1 | hb1
        · clear ho ho' h hat hf hn
          go_enter Try.func21, Try.ntmps21
          go_wp2_with (first | (go_at_call 35; refine HF.out.mono ?_; rintro e w' ⟨rfl, rfl⟩) | (go_at_call 32; refine (HP.out _).mono ?_; rintro e w' ⟨rfl, rfl⟩))
          go_ret
          exact ⟨rfl, got_same H.out⟩
        · have hb2 : ¬ n < 0 := by omega
          clear ho ho' h hat hf hn
          go_enter Try.func21, Try.ntmps21
          go_wp2_with (first | (go_at_call 35; refine HF.out.mono ?_; rintro e w' ⟨rfl, rfl⟩) | (go_at_call 32; refine (HP.out _).mono ?_; rintro e w' ⟨rfl, rfl⟩))
          go_ret
          exact ⟨rfl, got_same H.out⟩
      · rw [if_neg hb1]
        obtain ⟨m, rfl⟩ : ∃ m : Nat, n = m := ⟨n.toNat, by omega⟩
        have hb2 : ¬ (m : Int) < 0 := by omega
        have hb3 : ¬ ((sizeF f : Nat) : Int) < m := by omega
        have hms : m ≤ sizeF f := by omega
        rw [Int.toNat_natCast]
        have HP := Lib.hid (perform_m h hfit ho')
        by_cases hb : (burnS s).off = true
        · rw [if_pos hb]
          rw [if_pos hb] at HP
          clear ho ho' h hat hf hb hn hb1
          go_enter Try.func21, Try.ntmps21
          go_wp2_with (first | (go_at_call 35; refine HF.out.mono ?_; rintro e w' ⟨rfl, rfl⟩) | (go_at_call 32; refine HP.out.mono ?_; rintro e w1 ⟨rfl, hd1, ho1⟩; have D1 := Lib.hid hd1; have O1 := Lib.hid ho1; clear hd1 ho1))
          go_ret
          exact ⟨rfl, got_box D1.out rfl O1.out⟩
        · rw [if_neg hb]
          rw [if_neg hb] at HP
          have Hf := Lib.hid hf
          have Hfit := Lib.hid (burn_fit hfit)
          clear ho ho' h hat hf hb hn hb1
          go_enter Try.func21, Try.ntmps21
          go_wp2_with (first | (go_at_call 35; refine HF.out.mono ?_; rintro e w' ⟨rfl, rfl⟩) | (go_at_call 32; refine HP.out.mono ?_; rintro e w1 ⟨rfl, hd1, ho1⟩; have D1 := Lib.hid hd1; have O1 := Lib.hid ho1; clear hd1 ho1) | (go_at_call 37; refine (trunc_m D1.out Hfit.out Hf.out m hms).mono ?_; rintro e w2 ⟨rfl, hd2⟩; have D2 := Lib.hid hd2; clear hd2))
          go_ret
          obtain ⟨v', h1, h2, h3⟩ := D2.out
          refine ⟨rfl, mb, gm, _, h1, (O1.out.mono (fun _ e => .inl e)).trans (h2.mono fun _ e => ?_), fun k hk => ?_⟩
          · rcases e with e | e
            · exact .inl e
            · exact .inr (.inr ⟨f, List.mem_of_getElem? Hf.out, .inl e⟩)
          · rcases h3 k hk with e | e
            · exact .inl e
            · exact .inr (Nat.le_trans O1.out.size e)

/-- A file has gone. -/
theorem remove_end (h : DskM w r mb gm vm s) {i : Nat} {f : Fl} (hf : s.files[i]? = some f) (x : Int) (hx : x = (usedL s.files : Int) - (sizeF f : Int)) (q : Nat) (b : Nat) (hb : mb = some b) :
    (((w.drewN q).setCell ⟨r, 1, none⟩ (.int .i64 x)).ownsMap Try.prog 9 (ptrR (H := Unit)) b s.files.length (mapF (elP gm) s.files)) ∧
    ∀ w2, w2.ownsMap Try.prog 9 (ptrR (H := Unit)) b s.files.length ((mapF (elP gm) s.files).del (.string f.1)) → (((w.drewN q).setCell ⟨r, 1, none⟩ (.int .i64 x))).mapTurned w2 b →
      DskM w2 r mb gm vm { s with files := s.files.take i ++ s.files.drop (i + 1) } ∧ Only (fun k => k = r ∨ mb = some k) w w2 ∧ ∀ k, FootM r mb gm vm (s.files.take i ++ s.files.drop (i + 1)) k → FootM r mb gm vm s.files k := by
  subst hb
  have hbr := h.m_ne_r rfl
  have hm : w.ownsMap Try.prog 9 (ptrR (H := Unit)) b s.files.length (mapF (elP gm) s.files) := h.map
  have hat := atN_of h.rise hf
  have hu := used_cut hf
  have hsub : ∀ q ∈ s.files.take i ++ s.files.drop (i + 1), q ∈ s.files := fun q hq => by
    rcases List.mem_append.1 hq with e | e
    · exact List.mem_of_mem_take e
    · exact List.mem_of_mem_drop e
  have hm1 : ((w.drewN q).setCell ⟨r, 1, none⟩ (.int .i64 x)).ownsMap Try.prog 9 (ptrR (H := Unit)) b s.files.length (mapF (elP gm) s.files) :=
    World.ownsMap.setCell (w := w.drewN q) hm hbr _
  refine ⟨hm1, fun w2 h2 ht => ?_⟩
  have ho2 : Only (fun k => k = r ∨ some b = some k) w w2 := (((Only.refl _ w).drewN q).setCell ⟨r, 1, none⟩ (.int .i64 x) (.inl (.inl rfl))).trans ((only_grown ht.grown).mono fun k e => .inr (by rw [e]))
  have hfoot : ∀ k, FootM r (some b) gm vm (s.files.take i ++ s.files.drop (i + 1)) k → FootM r (some b) gm vm s.files k := fun k hk => by
    rcases hk with e | e | ⟨q, hq, e⟩
    · exact .inl e
    · exact .inr (.inl e)
    · exact .inr (.inr ⟨q, hsub q hq, e⟩)
  refine ⟨⟨?_, ?_, fun q hq => ?_, fun q hq p hp => h.inj q (hsub q hq) p (hsub p hp), fun q hq p hp => h.injv q (hsub q hq) p (hsub p hp), ?_, fun q hq => h.short q (hsub q hq)⟩, ho2, hfoot⟩
  · have h3 := (h.box.drewN' q).set 1 (.int .i64 x)
    refine Holds.grown (w := (w.drewN q).setCell ⟨r, 1, none⟩ (.int .i64 x)) ?_ ht.grown (by intro e; injection e with e; exact hbr e.symm)
    refine cast (congrArg (Holds _ r 58) ?_) h3
    show [Value.map _, .int .i64 x, _, _, _, _] = [Value.map _, .int .i64 (usedL (s.files.take i ++ s.files.drop (i + 1)) : Nat), _, _, _, _]
    rw [show x = ((usedL (s.files.take i ++ s.files.drop (i + 1)) : Nat) : Int) by omega]
  · show World.ownsMap _ _ _ _ _ _ _
    have h4 := ownsMap_tight h2
    rw [mapF_del (elP gm) h.rise hat, mapF_size] at h4
    exact h4
  · refine (h.fil q (hsub q hq)).only ho2 (fun e => ?_) fun k hk e => ?_
    · rcases e with e | e
      · exact h.r_ne_g (hsub q hq) e.symm
      · exact h.m_ne_g rfl (hsub q hq) (by injection e)
    · rcases e with e | e
      · exact h.r_ne_v (hsub q hq) hk e.symm
      · exact h.m_ne_v rfl (hsub q hq) hk (by injection e)
  · have := h.rise
    unfold RiseF at this ⊢
    refine List.Pairwise.sublist ?_ this
    conv => rhs; rw [← List.take_append_drop i s.files]
    exact (List.Sublist.refl _).append (by rw [← List.drop_drop]; exact List.drop_sublist 1 _)
theorem DskM.some_map (h : DskM w r mb gm vm s) {f : Fl} (hf : f ∈ s.files) : ∃ b, mb = some b := by
  have := h.map
  cases mb with
  | none => have e : s.files = [] := this; rw [e] at hf; cases hf
  | some b => exact ⟨b, rfl⟩

set_option maxRecDepth 100000 in
set_option maxHeartbeats 4000000 in
theorem remove_m (h : DskM w r mb gm vm s) (hfit : Fit s) {nm : List UInt8} (hnm : nm.length ≤ 9223372036854775807) :
    Calls Try.prog 22 #[.pointer (some ⟨r, 0, none⟩), .string (bs nm)] w (OpRet (.int .i64 (removeS nm s).1) r mb gm vm s (removeS nm s).2 w) := by
  have HF := Lib.hid (find_m h hnm)
  have H := Lib.hid h
  by_cases ho : s.off = true
  · have hr : removeS nm s = (7, s) := by unfold removeS onS; rw [if_pos ho]
    rw [hr]
    rw [findV_off ho] at HF
    have HP := Lib.hid (perform_err 7 (by decide) (some ⟨r, 0, none⟩))
    clear ho hr h
    go_enter Try.func22, Try.ntmps22
    go_wp2_with (first | (go_at_call 35; refine HF.out.mono ?_; rintro e w' ⟨rfl, rfl⟩) | (go_at_call 32; refine (HP.out _).mono ?_; rintro e w' ⟨rfl, rfl⟩))
    go_ret
    exact ⟨rfl, got_same H.out⟩
  · have ho' := off_false ho
    cases hat : atN nm s.files with
    | none =>
      have hr : removeS nm s = (8, s) := by unfold removeS onS; rw [if_neg ho, hat]
      rw [hr]
      rw [findV_none ho' hat] at HF
      have HP := Lib.hid (perform_err 8 (by decide) (some ⟨r, 0, none⟩))
      clear ho ho' hr h hat
      go_enter Try.func22, Try.ntmps22
      go_wp2_with (first | (go_at_call 35; refine HF.out.mono ?_; rintro e w' ⟨rfl, rfl⟩) | (go_at_call 32; refine (HP.out _).mono ?_; rintro e w' ⟨rfl, rfl⟩))
      go_ret
      exact ⟨rfl, got_same H.out⟩
    | some i =>
      obtain ⟨f, hf, hn⟩ := atN_some hat
      subst hn
      have hr : removeS f.1 s = if (burnS s).off = true then (7, burnS s) else (0, { burnS s with files := s.files.take i ++ s.files.drop (i + 1) }) := by
        unfold removeS onS; rw [if_neg ho, hat]
      rw [hr]
      rw [findV_some ho' hat] at HF
      have HP := Lib.hid (perform_m h hfit ho')
      by_cases hb : (burnS s).off = true
      · rw [if_pos hb]
        rw [if_pos hb] at HP
        clear ho ho' hr h hat hf hb
        go_enter Try.func22, Try.ntmps22
        go_wp2_with (first | (go_at_call 35; refine HF.out.mono ?_; rintro e w' ⟨rfl, rfl⟩) | (go_at_call 32; refine HP.out.mono ?_; rintro e w1 ⟨rfl, hd1, ho1⟩; have D1 := Lib.hid hd1; have O1 := Lib.hid ho1; clear hd1 ho1))
        go_ret
        exact ⟨rfl, got_box D1.out rfl O1.out⟩
      · rw [if_neg hb]
        rw [if_neg hb] at HP
        have Hf := Lib.hid hf
        have hfm := List.mem_of_getElem? hf
        obtain ⟨A, cap, hv, _⟩ := own_row (h.fil f hfm).own
        have Hv := Lib.hid hv
        obtain ⟨b, rfl⟩ := h.some_map hfm
        have hne : r ≠ gm f.1 := h.r_ne_g hfm
        have Hk := Lib.hid (key_bs hnm)
        have hus : sizeF f ≤ usedL s.files := size_used hf
        have hu := hfit.used
        obtain ⟨us, hus2⟩ : ∃ us, us = usedL s.files := ⟨_, rfl⟩
        rw [← hus2] at hus hu
        have Hus := Lib.hid hus2
        clear ho ho' hr h hat hf hb hv hfm hus2
        go_enter Try.func22, Try.ntmps22
        go_wp2_with (first | (go_at_call 35; refine HF.out.mono ?_; rintro e w' ⟨rfl, rfl⟩) | (go_at_call 32; refine HP.out.mono ?_; rintro e w1 ⟨rfl, hd1, ho1⟩; have D1 := Lib.hid hd1; have O1 := Lib.hid ho1; have hfil := hd1.fil f (List.mem_of_getElem? Hf.out); have d0 : w1.cell? ⟨gm f.1, 0, none⟩ = some (.slice A (sizeF f) cap) := (by rw [← Hv.out]; exact hfil.box.cell rfl); obtain ⟨c0, c1, _, _, _, _⟩ := hd1.cells; rw [show (burnS s).files = s.files from rfl, ← Hus.out] at c1; have g1 := hd1.box.frozen 1; clear hfil hd1 ho1))
        obtain ⟨hm1, hend⟩ := remove_end D1.out Hf.out ((us : Int) - (sizeF f : Int)) (by rw [Hus.out]; rfl) 1 b rfl
        have Hend := Lib.hid hend
        clear hend
        go_region
        all_goals
          go_wp2_with (at_delete; refine wpList_delete_own _ rfl _ _ 56 9 rfl 70 law9 Try.underlying56 ptrR b _ _ rfl hm1 _ _ rfl Hk.out ?_; intro w2 hown2 hturn2; have Hown2 := Lib.hid hown2; have Hturn2 := Lib.hid hturn2; clear hown2 hturn2)
          go_ret
          obtain ⟨h1, h2, h3⟩ := Hend.out _ Hown2.out Hturn2.out
          exact ⟨rfl, some b, gm, vm, h1, (O1.out.mono (fun _ e => .inl e)).trans (h2.mono fun k e => by rcases e with e | e; exact .inl e; exact .inr (.inl e)), fun k hk => .inl (h3 k hk)⟩
end
end Go.Proofs.Ytbgfkjafablfiaa
