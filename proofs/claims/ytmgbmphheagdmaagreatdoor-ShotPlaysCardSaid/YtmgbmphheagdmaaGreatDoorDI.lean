/- Texts of one claim, joined: DG DH DI. -/
import Derived.Test.YtmgbmphheagdmaaGreatDoorDF
import Derived.Carry
/-
  The contracts of Cut and Remove.
-/
namespace Go.Proofs.YtmgbmphheagdmaaGreatDoor
open Go.RowKit Go.Maps

section
variable {w w' : World} {r : Nat} {mb : Option Nat} {gm : List UInt8 → Nat} {vm : List UInt8 → Value} {s s' : St}
theorem cut_eq {nm : List UInt8} {n : Int} {i : Nat} {f : Fl} (ho : s.off = false) (hat : atN nm s.files = some i) (hf : s.files[i]? = some f) :
    cutS nm n s = if n < 0 ∨ ((sizeF f : Nat) : Int) < n then (1, s) else if (burnS s).off = true then (7, burnS s) else (0, { burnS s with files := s.files.modify i fun _ => cutF n.toNat f }) := by
  unfold cutS onS cutBad
  rw [if_neg (by rw [ho]; simp), hat]
  simp only [hf]
  by_cases hb : n < 0 ∨ ((sizeF f : Nat) : Int) < n
  · rw [if_pos hb, if_pos hb]
  · rw [if_neg hb, if_neg hb]
    simp only
    rw [modify_const (cutF n.toNat) hf]

set_option maxRecDepth 100000 in
set_option maxHeartbeats 4000000 in
theorem cut_m (h : DskM w r mb gm vm s) (hfit : Fit s) {nm : List UInt8} (hnm : nm.length ≤ 9223372036854775807) (n : Int) (hn : I64 n) :
    Calls Tryz.prog 22 #[.pointer (some ⟨r, 0, none⟩), .string (bs nm), .int .i64 n] w (OpRet (.int .i64 (cutS nm n s).1) r mb gm vm s (cutS nm n s).2 w) := by
  have HF := Lib.hid (find_m h hnm)
  have H := Lib.hid h
  by_cases ho : s.off = true
  · have hr : cutS nm n s = (7, s) := by unfold cutS onS; rw [if_pos ho]
    rw [hr]
    rw [findV_off ho] at HF
    have HP := Lib.hid (perform_err 7 (by decide) (some ⟨r, 0, none⟩))
    clear ho hr h hn
    go_enter Tryz.func22, Tryz.ntmps22
    go_wp2_with (first | (go_at_call 53; refine HF.out.mono ?_; rintro e w' ⟨rfl, rfl⟩) | (go_at_call 47; refine (HP.out _).mono ?_; rintro e w' ⟨rfl, rfl⟩))
    go_ret
    exact ⟨rfl, got_same H.out⟩
  · have ho' := off_false ho
    cases hat : atN nm s.files with
    | none =>
      have hr : cutS nm n s = (8, s) := by unfold cutS onS; rw [if_neg ho, hat]
      rw [hr]
      rw [findV_none ho' hat] at HF
      have HP := Lib.hid (perform_err 8 (by decide) (some ⟨r, 0, none⟩))
      clear ho ho' hr h hat hn
      go_enter Tryz.func22, Tryz.ntmps22
      go_wp2_with (first | (go_at_call 53; refine HF.out.mono ?_; rintro e w' ⟨rfl, rfl⟩) | (go_at_call 47; refine (HP.out _).mono ?_; rintro e w' ⟨rfl, rfl⟩))
      go_ret
      exact ⟨rfl, got_same H.out⟩
    | some i =>
      obtain ⟨f, hf, hnf⟩ := atN_some hat
      subst hnf
      rw [cut_eq ho' hat hf]
      rw [findV_some ho' hat] at HF
      have hfil := h.fil f (List.mem_of_getElem? hf)
      obtain ⟨A, cap, hv, _⟩ := own_row hfil.own
      have d0 : w.cell? ⟨gm f.1, 0, none⟩ = some (.slice A (sizeF f) cap) := by rw [← hv]; exact hfil.box.cell rfl
      clear hv hfil
      by_cases hb1 : n < 0 ∨ ((sizeF f : Nat) : Int) < n
      · rw [if_pos hb1]
        have HP := Lib.hid (perform_err 1 (by decide) (some ⟨r, 0, none⟩))
        rcases hb1 with hb1 | hb1
        · clear ho ho' h hat hf hn
          go_enter Tryz.func22, Tryz.ntmps22
          go_wp2_with (first | (go_at_call 53; refine HF.out.mono ?_; rintro e w' ⟨rfl, rfl⟩) | (go_at_call 47; refine (HP.out _).mono ?_; rintro e w' ⟨rfl, rfl⟩))
          go_ret
          exact ⟨rfl, got_same H.out⟩
        · have hb2 : ¬ n < 0 := by omega
          clear ho ho' h hat hf hn
          go_enter Tryz.func22, Tryz.ntmps22
          go_wp2_with (first | (go_at_call 53; refine HF.out.mono ?_; rintro e w' ⟨rfl, rfl⟩) | (go_at_call 47; refine (HP.out _).mono ?_; rintro e w' ⟨rfl, rfl⟩))
          go_ret
          exact ⟨rfl, got_same H.out⟩
      · rw [if_neg hb1]
        obtain ⟨m, rfl⟩ : ∃ m : Nat, n = m := ⟨n.toNat, by omega⟩
        have hb2 : ¬ (m : Int) < 0 := by omega
        have hb3 : ¬ ((sizeF f : Nat) : Int) < m := by omega
        have hms : m ≤ sizeF f := by omega
        rw [Int.toNat_natCast]
        have HP := Lib.hid (perform_m h hfit ho')
        by_cases hb : (burnS s).off = true
        · rw [if_pos hb]
          rw [if_pos hb] at HP
          clear ho ho' h hat hf hb hn hb1
          go_enter Tryz.func22, Tryz.ntmps22
          go_wp2_with (first | (go_at_call 53; refine HF.out.mono ?_; rintro e w' ⟨rfl, rfl⟩) | (go_at_call 47; refine HP.out.mono ?_; rintro e w1 ⟨rfl, hd1, ho1⟩; have D1 := Lib.hid hd1; have O1 := Lib.hid ho1; clear hd1 ho1))
          go_ret
          exact ⟨rfl, got_box D1.out rfl O1.out⟩
        · rw [if_neg hb]
          rw [if_neg hb] at HP
          have Hf := Lib.hid hf
          have Hfit := Lib.hid (burn_fit hfit)
          clear ho ho' h hat hf hb hn hb1
          go_enter Tryz.func22, Tryz.ntmps22
          go_wp2_with (first | (go_at_call 53; refine HF.out.mono ?_; rintro e w' ⟨rfl, rfl⟩) | (go_at_call 47; refine HP.out.mono ?_; rintro e w1 ⟨rfl, hd1, ho1⟩; have D1 := Lib.hid hd1; have O1 := Lib.hid ho1; clear hd1 ho1) | (go_at_call 45; refine (trunc_m D1.out Hfit.out Hf.out m hms).mono ?_; rintro e w2 ⟨rfl, hd2⟩; have D2 := Lib.hid hd2; clear hd2))
          go_ret
          obtain ⟨v', h1, h2, h3⟩ := D2.out
          refine ⟨rfl, mb, gm, _, h1, (O1.out.mono (fun _ e => .inl e)).trans (h2.mono fun _ e => ?_), fun k hk => ?_⟩
          · rcases e with e | e
            · exact .inl e
            · exact .inr (.inr ⟨f, List.mem_of_getElem? Hf.out, .inl e⟩)
          · rcases h3 k hk with e | e
            · exact .inl e
            · exact .inr (Nat.le_trans O1.out.size e)

/-- A file has gone. -/
theorem remove_end (h : DskM w r mb gm vm s) {i : Nat} {f : Fl} (hf : s.files[i]? = some f) (x : Int) (hx : x = (usedL s.files : Int) - (sizeF f : Int)) (q : Nat) (b : Nat) (hb : mb = some b) :
    (((w.drewN q).setCell ⟨r, 1, none⟩ (.int .i64 x)).ownsMap Tryz.prog 9 (ptrR (H := Unit)) b s.files.length (mapF (elP gm) s.files)) ∧
    ∀ w2, w2.ownsMap Tryz.prog 9 (ptrR (H := Unit)) b s.files.length ((mapF (elP gm) s.files).del (.string f.1)) → (((w.drewN q).setCell ⟨r, 1, none⟩ (.int .i64 x))).mapTurned w2 b →
      DskM w2 r mb gm vm { s with files := s.files.take i ++ s.files.drop (i + 1) } ∧ Only (fun k => k = r ∨ mb = some k) w w2 ∧ ∀ k, FootM r mb gm vm (s.files.take i ++ s.files.drop (i + 1)) k → FootM r mb gm vm s.files k := by
  subst hb
  have hbr := h.m_ne_r rfl
  have hm : w.ownsMap Tryz.prog 9 (ptrR (H := Unit)) b s.files.length (mapF (elP gm) s.files) := h.map
  have hat := atN_of h.rise hf
  have hu := used_cut hf
  have hsub : ∀ q ∈ s.files.take i ++ s.files.drop (i + 1), q ∈ s.files := fun q hq => by
    rcases List.mem_append.1 hq with e | e
    · exact List.mem_of_mem_take e
    · exact List.mem_of_mem_drop e
  have hm1 : ((w.drewN q).setCell ⟨r, 1, none⟩ (.int .i64 x)).ownsMap Tryz.prog 9 (ptrR (H := Unit)) b s.files.length (mapF (elP gm) s.files) :=
    World.ownsMap.setCell (w := w.drewN q) hm hbr _
  refine ⟨hm1, fun w2 h2 ht => ?_⟩
  have ho2 : Only (fun k => k = r ∨ some b = some k) w w2 := (((Only.refl _ w).drewN q).setCell ⟨r, 1, none⟩ (.int .i64 x) (.inl (.inl rfl))).trans ((only_grown ht.grown).mono fun k e => .inr (by rw [e]))
  have hfoot : ∀ k, FootM r (some b) gm vm (s.files.take i ++ s.files.drop (i + 1)) k → FootM r (some b) gm vm s.files k := fun k hk => by
    rcases hk with e | e | ⟨q, hq, e⟩
    · exact .inl e
    · exact .inr (.inl e)
    · exact .inr (.inr ⟨q, hsub q hq, e⟩)
  refine ⟨⟨?_, ?_, fun q hq => ?_, fun q hq p hp => h.inj q (hsub q hq) p (hsub p hp), fun q hq p hp => h.injv q (hsub q hq) p (hsub p hp), ?_, fun q hq => h.short q (hsub q hq)⟩, ho2, hfoot⟩
  · have h3 := (h.box.drewN' q).set 1 (.int .i64 x)
    refine Holds.grown (w := (w.drewN q).setCell ⟨r, 1, none⟩ (.int .i64 x)) ?_ ht.grown (by intro e; injection e with e; exact hbr e.symm)
    refine cast (congrArg (Holds _ r 70) ?_) h3
    show [Value.map _, .int .i64 x, _, _, _, _] = [Value.map _, .int .i64 (usedL (s.files.take i ++ s.files.drop (i + 1)) : Nat), _, _, _, _]
    rw [show x = ((usedL (s.files.take i ++ s.files.drop (i + 1)) : Nat) : Int) by omega]
  · show World.ownsMap _ _ _ _ _ _ _
    have h4 := ownsMap_tight h2
    rw [mapF_del (elP gm) h.rise hat, mapF_size] at h4
    exact h4
  · refine (h.fil q (hsub q hq)).only ho2 (fun e => ?_) fun k hk e => ?_
    · rcases e with e | e
      · exact h.r_ne_g (hsub q hq) e.symm
      · exact h.m_ne_g rfl (hsub q hq) (by injection e)
    · rcases e with e | e
      · exact h.r_ne_v (hsub q hq) hk e.symm
      · exact h.m_ne_v rfl (hsub q hq) hk (by injection e)
  · have := h.rise
    unfold RiseF at this ⊢
    refine List.Pairwise.sublist ?_ this
    conv => rhs; rw [← List.take_append_drop i s.files]
    exact (List.Sublist.refl _).append (by rw [← List.drop_drop]; exact List.drop_sublist 1 _)
theorem DskM.some_map (h : DskM w r mb gm vm s) {f : Fl} (hf : f ∈ s.files) : ∃ b, mb = some b := by
  have := h.map
  cases mb with
  | none => have e : s.files = [] := this; rw [e] at hf; cases hf
  | some b => exact ⟨b, rfl⟩

set_option maxRecDepth 100000 in
set_option maxHeartbeats 4000000 in
theorem remove_m (h : DskM w r mb gm vm s) (hfit : Fit s) {nm : List UInt8} (hnm : nm.length ≤ 9223372036854775807) :
    Calls Tryz.prog 34 #[.pointer (some ⟨r, 0, none⟩), .string (bs nm)] w (OpRet (.int .i64 (removeS nm s).1) r mb gm vm s (removeS nm s).2 w) := by
  have HF := Lib.hid (find_m h hnm)
  have H := Lib.hid h
  by_cases ho : s.off = true
  · have hr : removeS nm s = (7, s) := by unfold removeS onS; rw [if_pos ho]
    rw [hr]
    rw [findV_off ho] at HF
    have HP := Lib.hid (perform_err 7 (by decide) (some ⟨r, 0, none⟩))
    clear ho hr h
    go_enter Tryz.func34, Tryz.ntmps34
    go_wp2_with (first | (go_at_call 53; refine HF.out.mono ?_; rintro e w' ⟨rfl, rfl⟩) | (go_at_call 47; refine (HP.out _).mono ?_; rintro e w' ⟨rfl, rfl⟩))
    go_ret
    exact ⟨rfl, got_same H.out⟩
  · have ho' := off_false ho
    cases hat : atN nm s.files with
    | none =>
      have hr : removeS nm s = (8, s) := by unfold removeS onS; rw [if_neg ho, hat]
      rw [hr]
      rw [findV_none ho' hat] at HF
      have HP := Lib.hid (perform_err 8 (by decide) (some ⟨r, 0, none⟩))
      clear ho ho' hr h hat
      go_enter Tryz.func34, Tryz.ntmps34
      go_wp2_with (first | (go_at_call 53; refine HF.out.mono ?_; rintro e w' ⟨rfl, rfl⟩) | (go_at_call 47; refine (HP.out _).mono ?_; rintro e w' ⟨rfl, rfl⟩))
      go_ret
      exact ⟨rfl, got_same H.out⟩
    | some i =>
      obtain ⟨f, hf, hn⟩ := atN_some hat
      subst hn
      have hr : removeS f.1 s = if (burnS s).off = true then (7, burnS s) else (0, { burnS s with files := s.files.take i ++ s.files.drop (i + 1) }) := by
        unfold removeS onS; rw [if_neg ho, hat]
      rw [hr]
      rw [findV_some ho' hat] at HF
      have HP := Lib.hid (perform_m h hfit ho')
      by_cases hb : (burnS s).off = true
      · rw [if_pos hb]
        rw [if_pos hb] at HP
        clear ho ho' hr h hat hf hb
        go_enter Tryz.func34, Tryz.ntmps34
        go_wp2_with (first | (go_at_call 53; refine HF.out.mono ?_; rintro e w' ⟨rfl, rfl⟩) | (go_at_call 47; refine HP.out.mono ?_; rintro e w1 ⟨rfl, hd1, ho1⟩; have D1 := Lib.hid hd1; have O1 := Lib.hid ho1; clear hd1 ho1))
        go_ret
        exact ⟨rfl, got_box D1.out rfl O1.out⟩
      · rw [if_neg hb]
        rw [if_neg hb] at HP
        have Hf := Lib.hid hf
        have hfm := List.mem_of_getElem? hf
        obtain ⟨A, cap, hv, _⟩ := own_row (h.fil f hfm).own
        have Hv := Lib.hid hv
        obtain ⟨b, rfl⟩ := h.some_map hfm
        have hne : r ≠ gm f.1 := h.r_ne_g hfm
        have Hk := Lib.hid (key_bs hnm)
        have hus : sizeF f ≤ usedL s.files := size_used hf
        have hu := hfit.used
        obtain ⟨us, hus2⟩ : ∃ us, us = usedL s.files := ⟨_, rfl⟩
        rw [← hus2] at hus hu
        have Hus := Lib.hid hus2
        clear ho ho' hr h hat hf hb hv hfm hus2
        go_enter Tryz.func34, Tryz.ntmps34
        go_wp2_with (first | (go_at_call 53; refine HF.out.mono ?_; rintro e w' ⟨rfl, rfl⟩) | (go_at_call 47; refine HP.out.mono ?_; rintro e w1 ⟨rfl, hd1, ho1⟩; have D1 := Lib.hid hd1; have O1 := Lib.hid ho1; have hfil := hd1.fil f (List.mem_of_getElem? Hf.out); have d0 : w1.cell? ⟨gm f.1, 0, none⟩ = some (.slice A (sizeF f) cap) := (by rw [← Hv.out]; exact hfil.box.cell rfl); obtain ⟨c0, c1, _, _, _, _⟩ := hd1.cells; rw [show (burnS s).files = s.files from rfl, ← Hus.out] at c1; have g1 := hd1.box.frozen 1; clear hfil hd1 ho1))
        obtain ⟨hm1, hend⟩ := remove_end D1.out Hf.out ((us : Int) - (sizeF f : Int)) (by rw [Hus.out]; rfl) 1 b rfl
        have Hend := Lib.hid hend
        clear hend
        go_region
        all_goals
          go_wp2_with (at_delete; refine wpList_delete_own _ rfl _ _ 68 9 rfl 82 law9 Tryz.underlying68 ptrR b _ _ rfl hm1 _ _ rfl Hk.out ?_; intro w2 hown2 hturn2; have Hown2 := Lib.hid hown2; have Hturn2 := Lib.hid hturn2; clear hown2 hturn2)
          go_ret
          obtain ⟨h1, h2, h3⟩ := Hend.out _ Hown2.out Hturn2.out
          exact ⟨rfl, some b, gm, vm, h1, (O1.out.mono (fun _ e => .inl e)).trans (h2.mono fun k e => by rcases e with e | e; exact .inl e; exact .inr (.inl e)), fun k hk => .inl (h3 k hk)⟩
end
end Go.Proofs.YtmgbmphheagdmaaGreatDoor

/-
  The contract of create.
-/
namespace Go.Proofs.YtmgbmphheagdmaaGreatDoor
open Go.RowKit Go.Maps

theorem put_mem {l : List Fl} {p : Nat} {x q : Fl} (h : q ∈ l.take p ++ x :: l.drop p) : q = x ∨ q ∈ l := by
  rcases List.mem_append.1 h with e | e
  · exact .inr (List.mem_of_mem_take e)
  · rcases List.mem_cons.1 e with e | e
    · exact .inl e
    · exact .inr (List.mem_of_mem_drop e)
theorem put_rise {nm : List UInt8} {x : Fl} (hx : x.1 = nm) : ∀ {l : List Fl}, RiseF l → atN nm l = none → RiseF (l.take (placeL nm l) ++ x :: l.drop (placeL nm l))
  | [], _, _ => by simp [RiseF, placeL]
  | f :: l, hr, h => by
    have hf := atN_none h f (by simp)
    have h2 := h
    rw [atN_skip hf] at h2
    have ih := put_rise hx (rise_rest hr) (by simpa using h2)
    by_cases hlt : ltL f.1 nm = true
    · rw [placeL, if_pos hlt, List.take_succ_cons, List.drop_succ_cons, List.cons_append]
      refine List.pairwise_cons.2 ⟨fun q hq => ?_, ih⟩
      rcases put_mem hq with rfl | e
      · rw [hx]; exact hlt
      · exact (rise_after hr q e).1
    · rw [placeL, if_neg hlt]
      have hn : ltL nm f.1 = true := by
        rcases ltL_tri f.1 nm with e | e | e
        · exact absurd e hlt
        · exact absurd e hf
        · exact e
      show RiseF (x :: f :: l)
      refine List.pairwise_cons.2 ⟨fun q hq => ?_, hr⟩
      rw [hx]
      rcases List.mem_cons.1 hq with rfl | e
      · exact hn
      · exact ltL_trans hn (rise_after hr q e).1
theorem putF_new {nm : List UInt8} (b : List UInt8) {l : List Fl} (h : atN nm l = none) : putF nm b l = l.take (placeL nm l) ++ (nm, [], b) :: l.drop (placeL nm l) := by
  unfold putF; rw [h]; simp
theorem putF_at {nm : List UInt8} (b : List UInt8) {l : List Fl} (h : atN nm l = none) : (putF nm b l)[placeL nm l]? = some (nm, [], b) := by
  rw [putF_new b h, List.getElem?_append_right (by rw [List.length_take]; omega), List.length_take, Nat.min_eq_left (place_le nm l)]; simp
theorem putF_put {nm : List UInt8} (b : List UInt8) {l : List Fl} (h : atN nm l = none) : putF nm b l = (putF nm [] l).modify (placeL nm l) fun _ => (nm, [], b) := by
  rw [putF_new b h, putF_new [] h]
  apply List.ext_getElem?
  intro j
  have hl := place_le nm l
  rw [List.getElem?_modify]
  rcases Nat.lt_trichotomy j (placeL nm l) with e | e | e
  · rw [List.getElem?_append_left (by rw [List.length_take]; omega), List.getElem?_append_left (by rw [List.length_take]; omega)]
    cases (List.take (placeL nm l) l)[j]? <;> simp <;> omega
  · subst e
    rw [List.getElem?_append_right (by rw [List.length_take]; omega), List.getElem?_append_right (by rw [List.length_take]; omega), List.length_take, Nat.min_eq_left hl]; simp
  · rw [List.getElem?_append_right (by rw [List.length_take]; omega), List.getElem?_append_right (by rw [List.length_take]; omega), List.length_take, Nat.min_eq_left hl]
    obtain ⟨k, rfl⟩ : ∃ k, j = placeL nm l + 1 + k := ⟨j - (placeL nm l + 1), by omega⟩
    rw [show placeL nm l + 1 + k - placeL nm l = k + 1 by omega, List.getElem?_cons_succ, List.getElem?_cons_succ]
    cases (List.drop (placeL nm l) l)[k]? <;> simp <;> omega
theorem putF_len {nm : List UInt8} (b : List UInt8) {l : List Fl} (h : atN nm l = none) : (putF nm b l).length = l.length + 1 := by
  rw [putF_new b h, List.length_append, List.length_cons, List.length_take, List.length_drop]
  have := place_le nm l; omega
theorem mapF_congr {H : Type} {el el' : Fl → DataW H} {l : List Fl} (h : ∀ f ∈ l, el f = el' f) : mapF el l = mapF el' l := by
  unfold mapF
  rw [List.map_congr_left fun f hf => by rw [h f hf]]

section
variable {w w' : World} {r : Nat} {mb mb' : Option Nat} {gm : List UInt8 → Nat} {vm : List UInt8 → Value} {s s' : St}
/-- A file has come. -/
theorem create_end (h : DskM w r mb gm vm s) {nm : List UInt8} (hat : atN nm s.files = none) (hnm : nm.length ≤ 9223372036854775807) {g : Nat} (ho : Only (fun k => k = r ∨ mb = some k) w w') (hg : w.heap.size ≤ g)
    (hbox : Holds w' r 70 (boxC mb' s)) {b n : Nat} (hb : mb' = some b) (hmap : w'.ownsMap Tryz.prog 9 (ptrR (H := Unit)) b n ((mapF (elP gm) s.files).put (.string nm) (.lit (.int .i64 g))))
    (hmb : ∀ b, mb' = some b → mb = some b ∨ w.heap.size ≤ b) (hfil : FilM w' g (.slice none 0 0) (nm, [], [])) :
    DskM w' r mb' (updN gm nm g) (upd vm nm (.slice none 0 0)) { s with files := putF nm [] s.files } ∧ ∀ k, FootM r mb' (updN gm nm g) (upd vm nm (.slice none 0 0)) (putF nm [] s.files) k → FootM r mb gm vm s.files k ∨ w.heap.size ≤ k := by
  have hmem : ∀ q ∈ putF nm [] s.files, q = (nm, [], []) ∨ (q ∈ s.files ∧ q.1 ≠ nm) := fun q hq => by
    rw [putF_new [] hat] at hq
    rcases put_mem hq with e | e
    · exact .inl e
    · exact .inr ⟨e, atN_none hat q e⟩
  have hu := put_used_eq nm [] s.files
  refine ⟨⟨?_, ?_, ?_, ?_, ?_, ?_, ?_⟩, ?_⟩
  · refine cast (congrArg (Holds _ r 70) ?_) hbox
    unfold boxC
    simp only
    rw [show usedL (putF nm [] s.files) = usedL s.files by rw [hu]; simp]
  · subst hb
    show World.ownsMap _ _ _ _ _ _ _
    have h4 := ownsMap_tight hmap
    have e1 : mapF (elP gm) s.files = mapF (elP (updN gm nm g)) s.files := mapF_congr fun f hf => by unfold elP; rw [updN_other _ _ (atN_none hat f hf)]
    have e2 := (mapF_append (elP (updN gm nm g)) nm [] s.files h.rise).2 hat
    have e3 : elP (updN gm nm g) (nm, [], []) = .lit (.int .i64 g) := by unfold elP; rw [updN_same]
    rw [e3] at e2
    rw [e1, e2, mapF_size] at h4
    exact h4
  · intro q hq
    rcases hmem q hq with rfl | ⟨hq1, hq2⟩
    · rw [updN_same, upd_same]; exact hfil
    · rw [updN_other _ _ hq2, upd_other _ _ hq2]
      refine (h.fil q hq1).only ho (fun e => ?_) fun k hk e => ?_
      · rcases e with e | e
        · exact h.r_ne_g hq1 e.symm
        · exact h.m_ne_g e hq1 rfl
      · rcases e with e | e
        · exact h.r_ne_v hq1 hk e.symm
        · exact h.m_ne_v e hq1 hk rfl
  · intro q hq p hp e
    rcases hmem q hq with rfl | ⟨hq1, hq2⟩ <;> rcases hmem p hp with rfl | ⟨hp1, hp2⟩
    · rfl
    · exfalso
      rw [updN_same, updN_other _ _ hp2] at e
      have := (h.fil p hp1).lt; omega
    · exfalso
      rw [updN_same, updN_other _ _ hq2] at e
      have := (h.fil q hq1).lt; omega
    · rw [updN_other _ _ hq2, updN_other _ _ hp2] at e
      exact h.inj q hq1 p hp1 e
  · intro q hq p hp k hk1 hk2
    rcases hmem q hq with rfl | ⟨hq1, hq2⟩ <;> rcases hmem p hp with rfl | ⟨hp1, hp2⟩
    · rfl
    · rw [upd_same] at hk1; simp [Value.ownBlock] at hk1
    · rw [upd_same] at hk2; simp [Value.ownBlock] at hk2
    · rw [upd_other _ _ hq2] at hk1
      rw [upd_other _ _ hp2] at hk2
      exact h.injv q hq1 p hp1 k hk1 hk2
  · rw [putF_new [] hat]
    exact put_rise (nm := nm) (x := (nm, [], [])) rfl h.rise hat
  · intro q hq
    rcases hmem q hq with rfl | ⟨hq1, _⟩
    · exact hnm
    · exact h.short q hq1
  · intro k hk
    rcases hk with rfl | hk | ⟨q, hq, hk⟩
    · exact .inl (.inl rfl)
    · rcases hmb k hk with e | e
      · exact .inl (.inr (.inl e))
      · exact .inr e
    · rcases hmem q hq with rfl | ⟨hq1, hq2⟩
      · rw [updN_same, upd_same] at hk
        rcases hk with rfl | hk
        · exact .inr hg
        · simp [Value.ownBlock] at hk
      · rw [updN_other _ _ hq2, upd_other _ _ hq2] at hk
        exact .inl (.inr (.inr ⟨q, hq1, hk⟩))
theorem fil_new (w : World) (nm : List UInt8) : FilM (w.alloc (.cells #[.slice none 0 0, .int .i64 0] 84)) w.heap.size (.slice none 0 0) (nm, [], []) :=
  ⟨Holds.new w 84 _, by rw [byC_eq]; exact World.ownsRow_nil _ _ _ _⟩
theorem fil_grown {g b : Nat} {v : Value} {f : Fl} (h : FilM w g v f) (hg : w.grownBy w' (some b)) (h1 : g ≠ b) (h2 : v.ownBlock = none) : FilM w' g v f :=
  ⟨Holds.grown h.box hg (by intro e; injection e with e; exact h1 e), World.ownsRow.kept h.own hg (.inl h2)⟩

theorem eqlSome (b : Nat) (w : World) : (binOp .eql 68 (.map (some b)) (.map none)).run Tryz.prog w = .ok (.bool false) w := by kernel_rfl
theorem eqlNil (w : World) : (binOp .eql 68 (.map none) (.map none)).run Tryz.prog w = .ok (.bool true) w := by kernel_rfl
set_option maxRecDepth 100000 in
set_option maxHeartbeats 4000000 in
theorem create_m (h : DskM w r mb gm vm s) (hfit : Fit s) {nm : List UInt8} (hat : atN nm s.files = none) (hnm : nm.length ≤ 9223372036854775807) :
    Calls Tryz.prog 49 #[.pointer (some ⟨r, 0, none⟩), .string (bs nm)] w fun e w' => ∃ g mb', e = .returned (.pointer (some ⟨g, 0, none⟩)) ∧ w.heap.size ≤ g ∧ Only (fun k => k = r ∨ mb = some k) w w' ∧
      DskM w' r mb' (updN gm nm g) (upd vm nm (.slice none 0 0)) { s with files := putF nm [] s.files } ∧ ∀ k, FootM r mb' (updN gm nm g) (upd vm nm (.slice none 0 0)) (putF nm [] s.files) k → FootM r mb gm vm s.files k ∨ w.heap.size ≤ k := by
  obtain ⟨c0, _, _, _, _, _⟩ := h.cells
  have f0 := h.box.frozen 0
  have Hk := Lib.hid (key_bs hnm)
  have H := Lib.hid h
  have hlen : s.files.length < maxLen := Nat.lt_of_le_of_lt hfit.len (by unfold maxLen; omega)
  cases mb with
  | none =>
    have hfl : s.files = [] := h.map
    have hmm := @run_makeMap Tryz.prog
    have Hown : Hid ((((w.setCell ⟨r, 0, none⟩ (.map (some w.heap.size))).alloc (.map #[] 0)).alloc (.cells #[.slice none 0 0, .int .i64 0] 84)).ownsMap Tryz.prog 9 (ptrR (H := Unit)) w.heap.size 0 (mapF (elP gm) s.files)) := Lib.hid (by
      rw [hfl]
      have h1 := World.ownsMap_made (w.setCell ⟨r, 0, none⟩ (.map (some w.heap.size))) Tryz.prog 9 (ptrR (H := Unit))
      rw [show (w.setCell ⟨r, 0, none⟩ (.map (some w.heap.size))).heap.size = w.heap.size by simp] at h1
      exact World.ownsMap.alloc h1 _)
    have hrl := h.box.lt
    have Hrl := Lib.hid h.box.lt
    have Hat := Lib.hid hat
    have heq := eqlNil
    clear h hat hfl
    go_enter Tryz.func49, Tryz.ntmps49
    go_wp2_with (at_mapUpdate; refine wpList_mapUpdate_in _ rfl _ _ _ 68 rfl 9 82 law9 Tryz.underlying68 ptrR w.heap.size _ _ rfl Hown.out (by unfold maxLen; omega) _ _ _ rfl rfl Hk.out (.lit (.int .i64 ((w.heap.size + 1 : Nat) : Int))) [] rfl ?_; intro w2 hown2 hturn2; have Hown2 := Lib.hid hown2; have Hturn2 := Lib.hid hturn2; clear hown2 hturn2)
    go_ret
    have ho0 : Only (fun k => k = r ∨ none = some k) w (((w.setCell ⟨r, 0, none⟩ (.map (some w.heap.size))).alloc (.map #[] 0)).alloc (.cells #[.slice none 0 0, .int .i64 0] 84)) :=
      ((only_set w r 0 _).mono fun k e => .inl e).trans (Only.of_below (((Below.refl _ _).alloc (Nat.le_refl _) _).alloc (by simp) _) (fun i hi => .inr hi))
    have ho : Only (fun k => k = r ∨ none = some k) w w2 := ho0.then (only_grown Hturn2.out.grown) (fun i hi => .inr (by omega))
    have hrl := Hrl.out
    obtain ⟨h1, h2⟩ := create_end H.out Hat.out hnm ho (Nat.le_succ _) (by
        have hb := (H.out.box.set 0 (.map (some w.heap.size)))
        exact Holds.grown (Holds.alloc (Holds.alloc hb _) _) Hturn2.out.grown (by intro e; injection e with e; omega)) rfl Hown2.out (fun k e => .inr (by injection e with e; omega)) (by
        have := fil_new ((w.setCell ⟨r, 0, none⟩ (.map (some w.heap.size))).alloc (.map #[] 0)) nm
        rw [show ((w.setCell ⟨r, 0, none⟩ (.map (some w.heap.size))).alloc (.map #[] 0)).heap.size = w.heap.size + 1 by simp] at this
        exact fil_grown this Hturn2.out.grown (by omega) rfl)
    exact ⟨_, _, rfl, Nat.le_succ _, ho, h1, h2⟩
  | some b =>
    have hm : w.ownsMap Tryz.prog 9 (ptrR (H := Unit)) b s.files.length (mapF (elP gm) s.files) := h.map
    have Hown := Lib.hid (World.ownsMap.alloc hm (.cells #[.slice none 0 0, .int .i64 0] 84))
    have Hlen := Lib.hid hlen
    have Hat := Lib.hid hat
    have hrl := h.box.lt
    clear h hat hm hlen
    go_enter Tryz.func49, Tryz.ntmps49
    have heq := eqlSome b
    go_wp2_with (at_mapUpdate; refine wpList_mapUpdate_in _ rfl _ _ _ 68 rfl 9 82 law9 Tryz.underlying68 ptrR b _ _ rfl Hown.out Hlen.out _ _ _ rfl rfl Hk.out (.lit (.int .i64 (w.heap.size : Int))) [] rfl ?_; intro w2 hown2 hturn2; have Hown2 := Lib.hid hown2; have Hturn2 := Lib.hid hturn2; clear hown2 hturn2)
    go_ret
    have hbl : b < w.heap.size := H.out.map.lt rfl
    have ho : Only (fun k => k = r ∨ some b = some k) w w2 := ((Only.of_below ((Below.refl w.heap.size w).alloc (Nat.le_refl _) _) (fun i hi => .inr hi)).trans ((only_grown Hturn2.out.grown).mono fun k e => .inr (by rw [e])))
    obtain ⟨h1, h2⟩ := create_end H.out Hat.out hnm ho (Nat.le_refl _) (by
        have hb := H.out.box
        exact Holds.grown (Holds.alloc hb _) Hturn2.out.grown (by intro e; injection e with e; exact H.out.m_ne_r rfl e.symm)) rfl Hown2.out (fun _ e => .inl e) (fil_grown (fil_new w nm) Hturn2.out.grown (by omega) rfl)
    exact ⟨_, _, rfl, Nat.le_refl _, ho, h1, h2⟩
end
end Go.Proofs.YtmgbmphheagdmaaGreatDoor

/-
  The contract of Append.
-/
namespace Go.Proofs.YtmgbmphheagdmaaGreatDoor
open Go.RowKit Go.Maps

theorem strCells_eq (s : ByteArray) : Lib.strCells s = byC (bl s) := by rw [byC_eq, bl_eq]; rfl
theorem infoB : (Tryz.prog.info? 5).map (fun i => (i.zero, i.size, i.bytes)) = some (some (.int .u8 0), 1, 1) := by kernel_rfl
/-- A text behind a row of bytes: in the row's own block, or in a new one. -/
theorem run_append_t (w : World) (ty : TypeId) (v : Value) (n : Nat) (l : List UInt8) (hown : w.ownsRow 0 5 1 v n (byC l)) (s : ByteArray) (h63 : n + s.size ≤ 1000000000000) :
    ∃ v' w', (Builtin.append_ #[66, 9] ty #[v, .string s]).run Tryz.prog w = .ok v' w' ∧ w'.ownsRow 0 5 1 v' (n + s.size) (byC (l ++ bl s)) ∧ w.grownBy w' v.ownBlock ∧ ∀ k, v'.ownBlock = some k → v.ownBlock = some k ∨ w.heap.size ≤ k := by
  obtain ⟨i, hi, hz, h1, h2⟩ := info_parts infoB
  obtain ⟨v', w', hr, hown2, hg, hn⟩ := Lib.run_append_own_string (P := Tryz.prog) w 0 66 9 ty 5 i Tryz.underlying66 Tryz.underlying9 hi hz h1 h2 v n (byC l) hown s (by unfold maxLen; omega) (by omega) (Nat.zero_le _)
  rw [strCells_eq, ← byC_append] at hown2
  refine ⟨v', w', hr, hown2, hg, fun k hk => ?_⟩
  rcases hown.2 with ⟨rfl, rfl⟩ | ⟨g, cap, cur, rfl, _, hh, hc, hcm, hcs, ht⟩
  · by_cases h0 : s.size = 0
    · rw [hn.2 ⟨rfl, h0⟩] at hk; simp [Value.ownBlock] at hk
    · have hr2 := run_append_nil_string (P := Tryz.prog) w 66 9 ty 5 i _ Tryz.underlying66 Tryz.underlying9 hi hz s (by omega) (by omega) (by rw [h2]; omega)
      rw [hr2] at hr
      injection hr with e1 e2
      subst e1
      simp [Value.ownBlock] at hk
      exact .inr (by omega)
  · by_cases hroom : n + s.size ≤ cap
    · have hr2 := Lib.run_append_room_string (P := Tryz.prog) w 66 9 ty 5 i Tryz.underlying66 Tryz.underlying9 hi h1 g n cap cur hh s hroom (by omega)
      rw [hr2] at hr
      injection hr with e1 e2
      subst e1
      exact .inl hk
    · have hr2 := Lib.run_append_grow_string (P := Tryz.prog) w 66 9 ty 5 i _ Tryz.underlying66 Tryz.underlying9 hi hz ⟨g, 0, none⟩ n cap (byC l) (by rw [h1]; exact hown.1) (hown.cells (g := g) rfl) s (by omega) (by omega) (by rw [h2]; exact growslice_fits (by omega) (by omega))
      rw [hr2] at hr
      injection hr with e1 e2
      subst e1
      simp [Value.ownBlock] at hk
      exact .inr (by omega)
theorem wpList_append_t {ops : Array Oper} {rest : List Oper} {o : Oper} {a : Act} {Q : Exit → Act → World → Prop} {w : World} (hgd : o.guard = none) (sl x : Operand) (ho : o.op = .call { callee := .builtin .append, args := #[sl, x], argTypes := #[66, 9] })
    (v : Value) (n : Nat) (l : List UInt8) (hs : a.eval sl = v) (hown : w.ownsRow 0 5 1 v n (byC l)) (s : ByteArray) (hx : a.eval x = .string s) (h63 : n + s.size ≤ 1000000000000)
    (h : ∀ A c w', w'.ownsRow 0 5 1 (.slice A (n + s.size) c) (n + s.size) (byC (l ++ bl s)) → w.grownBy w' v.ownBlock → (∀ k, (Value.slice A (n + s.size) c).ownBlock = some k → v.ownBlock = some k ∨ w.heap.size ≤ k) → wpList Tryz.prog ops Q rest (a.put o.dst (.slice A (n + s.size) c)) w') : wpList Tryz.prog ops Q (o :: rest) a w := by
  refine wpList_plain hgd fun K hK => ?_
  obtain ⟨v', w', hr, h2, h3, h4⟩ := run_append_t w o.type v n l hown s h63
  obtain ⟨A, c, rfl, _⟩ := own_row h2
  unfold Oper.wp execOp
  simp only [ho, resolve, invoke, builtin, Sem.run_bind, Sem.run_pure, Result.andThen_ok, List.map_toArray, List.map_cons, List.map_nil, hs, hx, hr]
  exact hK _ _ (h A c w' h2 h3 h4)

section
variable {w w' : World} {r : Nat} {mb mb' : Option Nat} {gm : List UInt8 → Nat} {vm : List UInt8 → Value} {s s' : St}
theorem only_row {v : Option Nat} (h : w.grownBy w' v) : Only (fun k => v = some k) w w' := ⟨h.os, h.tape, h.output, h.size, fun i hi hn => h.block i hi (fun e => hn e.symm)⟩
theorem append_facts (h : DskM w r mb gm vm s) {i : Nat} {f : Fl} (hf : s.files[i]? = some f) {w2 : World} (hg : w.grownBy w2 (vm f.1).ownBlock) :
    w2.cell? ⟨gm f.1, 0, none⟩ = some (vm f.1) ∧ w2.frozen? ⟨gm f.1, 0, none⟩ = false ∧ w2.cell? ⟨r, 0 + 1, none⟩ = some (.int .i64 (usedL s.files : Nat)) ∧ w2.frozen? ⟨r, 1, none⟩ = false ∧ r ≠ gm f.1 := by
  have hfm := List.mem_of_getElem? hf
  have h1 := (h.fil f hfm).box.grown hg (fun e => h.g_ne_v hfm hfm e.symm rfl)
  have h2 := h.box.grown hg (fun e => h.r_ne_v hfm e.symm rfl)
  exact ⟨h1.cell rfl, h1.frozen 0, h2.cell rfl, h2.frozen 1, h.r_ne_g hfm⟩
theorem append_end (h : DskM w r mb gm vm s) {i : Nat} {f : Fl} (hf : s.files[i]? = some f) (b : List UInt8) {v2 : Value} {w2 : World} (hown : w2.ownsRow 0 5 1 v2 (sizeF f + b.length) (byC ((f.2.1 ++ f.2.2) ++ b)))
    (hg : w.grownBy w2 (vm f.1).ownBlock) (hnew : ∀ k, v2.ownBlock = some k → (vm f.1).ownBlock = some k ∨ w.heap.size ≤ k) (x : Int) (hx : x = (usedL s.files : Int) + b.length) :
    DskM ((w2.setCell ⟨gm f.1, 0, none⟩ v2).setCell ⟨r, 1, none⟩ (.int .i64 x)) r mb gm (upd vm f.1 v2) { s with files := s.files.modify i fun _ => (f.1, f.2.1, f.2.2 ++ b) } ∧
    Only (fun k => k = r ∨ k = gm f.1 ∨ (vm f.1).ownBlock = some k) w ((w2.setCell ⟨gm f.1, 0, none⟩ v2).setCell ⟨r, 1, none⟩ (.int .i64 x)) ∧
    (∀ k, FootM r mb gm (upd vm f.1 v2) (s.files.modify i fun _ => (f.1, f.2.1, f.2.2 ++ b)) k → FootM r mb gm vm s.files k ∨ w.heap.size ≤ k) := by
  have hfm := List.mem_of_getElem? hf
  have hne := h.r_ne_g hfm
  have hof : Only (fun k => k = r ∨ k = gm f.1 ∨ (vm f.1).ownBlock = some k) w ((w2.setCell ⟨gm f.1, 0, none⟩ v2).setCell ⟨r, 1, none⟩ (.int .i64 x)) :=
    (((only_row hg).mono fun k e => .inr (.inr e)).setCell ⟨gm f.1, 0, none⟩ _ (.inl (.inr (.inl rfl)))).setCell ⟨r, 1, none⟩ _ (.inl (.inl rfl))
  have hu := used_modify (f' := (f.1, f.2.1, f.2.2 ++ b)) hf
  have hsz : sizeF (f.1, f.2.1, f.2.2 ++ b) = sizeF f + b.length := by unfold sizeF; simp only [List.length_append]; omega
  rw [hsz] at hu
  have hbox : Holds ((w2.setCell ⟨gm f.1, 0, none⟩ v2).setCell ⟨r, 1, none⟩ (.int .i64 x)) r 70 (boxC mb { s with files := s.files.modify i fun _ => (f.1, f.2.1, f.2.2 ++ b) }) := by
    have h2 := h.box.grown hg (fun e => h.r_ne_v hfm e.symm rfl)
    refine cast (congrArg (Holds _ r 70) ?_) ((Holds.aside h2 (a := ⟨gm f.1, 0, none⟩) hne v2).set 1 (.int .i64 x))
    show [Value.map mb, .int .i64 x, _, _, _, _] = [Value.map mb, .int .i64 (usedL (s.files.modify i fun _ => (f.1, f.2.1, f.2.2 ++ b)) : Nat), _, _, _, _]
    rw [show x = ((usedL (s.files.modify i fun _ => (f.1, f.2.1, f.2.2 ++ b)) : Nat) : Int) by omega]
  have hfil : FilM ((w2.setCell ⟨gm f.1, 0, none⟩ v2).setCell ⟨r, 1, none⟩ (.int .i64 x)) (gm f.1) v2 (f.1, f.2.1, f.2.2 ++ b) := by
    refine ⟨?_, ?_⟩
    · have h1 := (h.fil f hfm).box.grown hg (fun e => h.g_ne_v hfm hfm e.symm rfl)
      exact Holds.aside (h1.set 0 v2) (a := ⟨r, 1, none⟩) hne.symm _
    · rw [hsz, show ((f.1, f.2.1, f.2.2 ++ b) : Fl).2.1 ++ ((f.1, f.2.1, f.2.2 ++ b) : Fl).2.2 = (f.2.1 ++ f.2.2) ++ b by simp]
      have hlr := h.box.lt
      have hlg := (h.fil f hfm).lt
      have ho2 : Only (fun k => k = r ∨ k = gm f.1) w2 ((w2.setCell ⟨gm f.1, 0, none⟩ v2).setCell ⟨r, 1, none⟩ (.int .i64 x)) :=
        ((Only.refl _ w2).setCell ⟨gm f.1, 0, none⟩ _ (.inl (.inr rfl))).setCell ⟨r, 1, none⟩ _ (.inl (.inl rfl))
      exact own_only hown ho2 fun j hj e => by
        rcases hnew j e with e2 | e2
        · rcases hj with rfl | rfl
          · exact h.r_ne_v hfm e2 rfl
          · exact h.g_ne_v hfm hfm e2 rfl
        · rcases hj with rfl | rfl <;> omega
  obtain ⟨h1, h2⟩ := h.turn (f' := (f.1, f.2.1, f.2.2 ++ b)) (s' := { s with files := s.files.modify i fun _ => (f.1, f.2.1, f.2.2 ++ b) }) hf rfl rfl hof (fun k hk => hk) hbox hfil hnew
  exact ⟨h1, hof, h2⟩

theorem refu_err {nm b : List UInt8} (h : refuS nm b.length s ≠ 0) : appendS nm b s = (refuS nm b.length s, s) := by
  unfold refuS at h ⊢
  unfold appendS
  split
  · rfl
  · split
    · rfl
    · split
      · rfl
      · rename_i h1 h2 h3
        rw [if_neg h1, if_neg h2, if_neg h3] at h
        exact absurd rfl h
theorem refu_ok {nm b : List UInt8} (h : refuS nm b.length s = 0) : s.off = false ∧ rightL nm = true ∧ ¬ s.room < ((usedL s.files + b.length : Nat) : Int) := by
  unfold refuS at h
  split at h
  · cases h
  · split at h
    · cases h
    · split at h
      · cases h
      · rename_i h1 h2 h3
        exact ⟨off_false h1, by cases hh : rightL nm <;> simp_all, h3⟩

set_option maxRecDepth 100000 in
set_option maxHeartbeats 4000000 in
theorem append_m (h : DskM w r mb gm vm s) (hfit : Fit s) (nm b : List UInt8) (hnm : nm.length ≤ 1000000) (hb : b.length ≤ 2000000) :
    Calls Tryz.prog 20 #[.pointer (some ⟨r, 0, none⟩), .string (bs nm), .string (bs b)] w (OpRet (.int .i64 (appendS nm b s).1) r mb gm vm s (appendS nm b s).2 w) := by
  have hbs : (bs b).size = b.length := bs_size b
  have HR := Lib.hid (refused_m h hfit hnm b.length hb)
  have H := Lib.hid h
  by_cases he : refuS nm b.length s = 0
  · obtain ⟨ho, hr, hroom⟩ := refu_ok he
    rw [he] at HR
    have HP := Lib.hid (fun w1 (hb : Below w.heap.size w w1) => perform_m (H.out.below hb) hfit ho)
    by_cases hbn : (burnS s).off = true
    · have hv : appendS nm b s = (7, burnS s) := by unfold appendS; rw [if_neg (by rw [ho]; simp), if_neg (by rw [hr]; simp), if_neg hroom, if_pos hbn]
      rw [hv]
      rw [if_pos hbn] at HP
      clear h ho hr hroom he hv hbn
      go_enter Tryz.func20, Tryz.ntmps20
      go_wp2_with (first | (go_at_call 48; refine HR.out.mono ?_; rintro e w1 ⟨rfl, hb1⟩; have Hb1 := Lib.hid hb1; clear hb1) | (go_at_call 47; refine (HP.out _ Hb1.out).mono ?_; rintro e w2 ⟨rfl, hd2, ho2⟩; have D2 := Lib.hid hd2; have O2 := Lib.hid ho2; clear hd2 ho2))
      go_ret
      exact ⟨rfl, got_box D2.out rfl ((Only.of_below Hb1.out (fun i hi => .inr hi)).trans O2.out)⟩
    · have hv : appendS nm b s = (0, { burnS s with files := putF nm b s.files }) := by unfold appendS; rw [if_neg (by rw [ho]; simp), if_neg (by rw [hr]; simp), if_neg hroom, if_neg hbn]
      rw [hv]
      rw [if_neg hbn] at HP
      have hnm' : nm.length ≤ 9223372036854775807 := by omega
      have Hfit := Lib.hid (burn_fit hfit)
      have hu := hfit.used
      obtain ⟨us, hus2⟩ : ∃ us, us = usedL s.files := ⟨_, rfl⟩
      rw [← hus2] at hu
      have Hus := Lib.hid hus2
      cases hat : atN nm s.files with
      | some i =>
        obtain ⟨f, hf, hnf⟩ := atN_some hat
        subst hnf
        have hpv : putF f.1 b s.files = s.files.modify i fun _ => (f.1, f.2.1, f.2.2 ++ b) := by
          unfold putF; rw [hat]; simp only; rw [modify_const (fun f => (f.1, f.2.1, f.2.2 ++ b)) hf]
        rw [hpv]
        have HL := Lib.hid (fun w1 (hd1 : DskM w1 r mb gm vm (burnS s)) => look_m hd1 hnm')
        rw [show (burnS s).files = s.files from rfl, hat] at HL
        have Hf := Lib.hid hf
        have hsz : sizeF f ≤ us := by rw [Hus.out]; exact size_used hf
        have Hbb : Hid (bl (bs b) = b) := Lib.hid (bl_bs b)
        clear h ho hr hroom he hv hbn hat hf hpv hus2
        go_enter Tryz.func20, Tryz.ntmps20
        go_wp2_with (first
          | (go_at_call 48; refine HR.out.mono ?_; rintro e w1 ⟨rfl, hb1⟩; have Hb1 := Lib.hid hb1; clear hb1)
          | (go_at_call 47; refine (HP.out _ Hb1.out).mono ?_; rintro e w2 ⟨rfl, hd2, ho2⟩; have D2 := Lib.hid hd2; have O2 := Lib.hid ho2; have HL2 := Lib.hid (HL.out _ hd2); obtain ⟨c0, _, _, _, _, _⟩ := hd2.cells; have hfil := hd2.fil f (List.mem_of_getElem? Hf.out); have d0 : w2.cell? ⟨gm f.1, 0, none⟩ = some (vm f.1) := hfil.box.cell rfl; have Hown := Lib.hid hfil.own; clear hfil hd2 ho2)
          | (at_lookup; refine wpList_lookup_run rfl _ _ 68 true rfl _ _ _ rfl rfl HL2.out ?_)
          | (at_builtin; refine wpList_append_t rfl _ _ rfl (vm f.1) (sizeF f) (f.2.1 ++ f.2.2) rfl Hown.out (bs b) rfl (by omega) ?_; intro A3 c3 w3 hown3 hg3 hn3; rw [hbs, Hbb.out] at hown3; rw [hbs] at hn3; obtain ⟨d0, g0, e1, e2, hne⟩ := append_facts D2.out Hf.out hg3; rw [show (burnS s).files = s.files from rfl, ← Hus.out] at e1; have Hown3 := Lib.hid hown3; have Hg3 := Lib.hid hg3; have Hn3 := Lib.hid hn3; clear hown3 hg3 hn3))
        go_ret
        obtain ⟨h1, h2, h3⟩ := append_end D2.out Hf.out b Hown3.out Hg3.out Hn3.out ((us : Int) + b.length) (by rw [Hus.out]; rfl)
        refine ⟨rfl, mb, gm, _, h1, ((Only.of_below Hb1.out (fun i hi => .inr hi)).trans (O2.out.mono (fun _ e => .inl e))).trans (h2.mono fun k e => ?_), fun k hk => ?_⟩
        · rcases e with e | e
          · exact .inl e
          · exact .inr (.inr ⟨f, List.mem_of_getElem? Hf.out, e⟩)
        · rcases h3 k hk with e | e
          · exact .inl e
          · exact .inr (Nat.le_trans Hb1.out.size (Nat.le_trans O2.out.size e))
      | none =>
        have HL := Lib.hid (fun w1 (hd1 : DskM w1 r mb gm vm (burnS s)) => look_m hd1 hnm')
        rw [show (burnS s).files = s.files from rfl, hat] at HL
        have HC := Lib.hid (fun w1 (hd1 : DskM w1 r mb gm vm (burnS s)) => create_m hd1 Hfit.out (nm := nm) hat hnm')
        have Hf := Lib.hid (putF_at [] hat)
        have Hpp := Lib.hid (putF_put b hat)
        have Hnil : Hid (∀ w : World, w.ownsRow 0 5 1 (.slice none 0 0) 0 (byC [])) := Lib.hid (fun w => by rw [byC_eq]; exact World.ownsRow_nil _ _ _ _)
        have Hu3 : Hid (usedL (putF nm [] s.files) = us) := Lib.hid (by rw [put_used_eq, Hus.out]; rfl)
        have Hbb : Hid (bl (bs b) = b) := Lib.hid (bl_bs b)
        clear h ho hr hroom he hv hbn hat hus2
        go_enter Tryz.func20, Tryz.ntmps20
        go_wp2_with (first
          | (go_at_call 48; refine HR.out.mono ?_; rintro e w1 ⟨rfl, hb1⟩; have Hb1 := Lib.hid hb1; clear hb1)
          | (go_at_call 47; refine (HP.out _ Hb1.out).mono ?_; rintro e w2 ⟨rfl, hd2, ho2⟩; have D2 := Lib.hid hd2; have O2 := Lib.hid ho2; have HL2 := Lib.hid (HL.out _ hd2); obtain ⟨c0, _, _, _, _, _⟩ := hd2.cells; clear hd2 ho2)
          | (at_lookup; refine wpList_lookup_run rfl _ _ 68 true rfl _ _ _ rfl rfl HL2.out ?_)
          | (go_at_call 49; refine (HC.out _ D2.out).mono ?_; rintro e w3 ⟨g, mb3, rfl, hg3, ho3, hd3, hk3⟩; have D3 := Lib.hid hd3; have O3 := Lib.hid ho3; have K3 := Lib.hid hk3; have G3 := Lib.hid hg3; have hfil := hd3.fil (nm, [], []) (List.mem_of_getElem? Hf.out); simp only [updN_same, upd_same] at hfil; have d0 : w3.cell? ⟨g, 0, none⟩ = some (.slice none 0 0) := hfil.box.cell rfl; clear hfil hd3 ho3 hk3 hg3)
          | (at_builtin; go_loud (refine wpList_append_t rfl (.tmp 38) (.tmp 39) rfl (.slice none 0 0) 0 [] rfl (Hnil.out _) (bs b) rfl (by omega) ?_); intro A4 c4 w4 hown4 hg4 hn4; rw [hbs, Hbb.out] at hown4; rw [hbs] at hn4; have hfa := append_facts D3.out Hf.out (w2 := w4); simp only [updN_same, upd_same] at hfa; obtain ⟨d0, g0, e1, e2, hne⟩ := hfa hg4; replace e1 : w4.cell? ⟨r, 0 + 1, none⟩ = some (.int .i64 (us : Int)) := (by rw [← Hu3.out]; exact e1); have Hown4 := Lib.hid hown4; have Hg4 := Lib.hid hg4; have Hn4 := Lib.hid hn4; clear hown4 hg4 hn4 hfa))
        go_ret
        have hend := append_end D3.out Hf.out b (v2 := .slice A4 (0 + b.length) c4) (w2 := w4)
        simp only [updN_same, upd_same] at hend
        obtain ⟨h1, h2, h3⟩ := hend Hown4.out Hg4.out Hn4.out ((us : Int) + b.length) (by rw [← Hu3.out]; rfl)
        simp only [List.nil_append, Nat.zero_add] at h1 h2 h3
        rw [show (burnS s).files = s.files from rfl, ← Hpp.out] at h1 h3
        have hz2 : w.heap.size ≤ w2.heap.size := Nat.le_trans Hb1.out.size O2.out.size
        have hz3 : w.heap.size ≤ w3.heap.size := Nat.le_trans hz2 O3.out.size
        have hO : Only (FootM r mb gm vm s.files) w w3 := ((Only.of_below Hb1.out (fun i hi => .inr hi)).trans (O2.out.mono (fun _ e => .inl e))).trans (O3.out.mono fun k e => by
          rcases e with e | e
          · exact .inl e
          · exact .inr (.inl e))
        refine ⟨rfl, mb3, updN gm nm g, _, h1, hO.then h2 (fun k e => ?_), fun k hk => ?_⟩
        · rcases e with e | e | e
          · exact .inl (.inl e)
          · have := G3.out; exact .inr (by omega)
          · simp [Value.ownBlock] at e
        · rcases h3 k hk with e | e
          · rcases K3.out k e with e | e
            · exact .inl e
            · exact .inr (Nat.le_trans hz2 e)
          · exact .inr (Nat.le_trans hz3 e)
  · rw [refu_err he]
    have HP := Lib.hid (perform_err _ he (some ⟨r, 0, none⟩))
    have hne : (refuS nm b.length s != 0) = true := by simp [he]
    clear h he
    go_enter Tryz.func20, Tryz.ntmps20
    go_wp2_with (first | (go_at_call 48; refine HR.out.mono ?_; rintro e w1 ⟨rfl, hb1⟩; have Hb1 := Lib.hid hb1; clear hb1) | (go_at_call 47; refine (HP.out _).mono ?_; rintro e w' ⟨rfl, rfl⟩))
    go_ret
    exact ⟨rfl, got_box (H.out.below Hb1.out) rfl (Only.of_below Hb1.out (fun i hi => .inr hi))⟩
end
end Go.Proofs.YtmgbmphheagdmaaGreatDoor
