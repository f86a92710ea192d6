/-
  The contract of Append.
-/
import Derived.Test.YtbgfkjafablfiaaDH
namespace Go.Proofs.Ytbgfkjafablfiaa
open Go.RowKit Go.Maps

theorem strCells_eq (s : ByteArray) : Lib.strCells s = byC (bl s) := by rw [byC_eq, bl_eq]; rfl
theorem infoB : (Try.prog.info? 5).map (fun i => (i.zero, i.size, i.bytes)) = some (some (.int .u8 0), 1, 1) := by kernel_rfl
/-- A text behind a row of bytes: in the row's own block, or in a new one. -/
theorem run_append_t (w : World) (ty : TypeId) (v : Value) (n : Nat) (l : List UInt8) (hown : w.ownsRow 0 5 1 v n (byC l)) (s : ByteArray) (h63 : n + s.size ≤ 1000000000000) :
    ∃ v' w', (Builtin.append_ #[49, 9] ty #[v, .string s]).run Try.prog w = .ok v' w' ∧ w'.ownsRow 0 5 1 v' (n + s.size) (byC (l ++ bl s)) ∧ w.grownBy w' v.ownBlock ∧ ∀ k, v'.ownBlock = some k → v.ownBlock = some k ∨ w.heap.size ≤ k := by
  obtain ⟨i, hi, hz, h1, h2⟩ := info_parts infoB
  obtain ⟨v', w', hr, hown2, hg, hn⟩ := Lib.run_append_own_string (P := Try.prog) w 0 49 9 ty 5 i Try.underlying49 Try.underlying9 hi hz h1 h2 v n (byC l) hown s (by unfold maxLen; omega) (by omega) (Nat.zero_le _)
  rw [strCells_eq, ← byC_append] at hown2
  refine ⟨v', w', hr, hown2, hg, fun k hk => ?_⟩
  rcases hown.2 with ⟨rfl, rfl⟩ | ⟨g, cap, cur, rfl, _, hh, hc, hcm, hcs, ht⟩
  · by_cases h0 : s.size = 0
    · rw [hn.2 ⟨rfl, h0⟩] at hk; simp [Value.ownBlock] at hk
    · have hr2 := run_append_nil_string (P := Try.prog) w 49 9 ty 5 i _ Try.underlying49 Try.underlying9 hi hz s (by omega) (by omega) (by rw [h2]; omega)
      rw [hr2] at hr
      injection hr with e1 e2
      subst e1
      simp [Value.ownBlock] at hk
      exact .inr (by omega)
  · by_cases hroom : n + s.size ≤ cap
    · have hr2 := Lib.run_append_room_string (P := Try.prog) w 49 9 ty 5 i Try.underlying49 Try.underlying9 hi h1 g n cap cur hh s hroom (by omega)
      rw [hr2] at hr
      injection hr with e1 e2
      subst e1
      exact .inl hk
    · have hr2 := Lib.run_append_grow_string (P := Try.prog) w 49 9 ty 5 i _ Try.underlying49 Try.underlying9 hi hz ⟨g, 0, none⟩ n cap (byC l) (by rw [h1]; exact hown.1) (hown.cells (g := g) rfl) s (by omega) (by omega) (by rw [h2]; exact growslice_fits (by omega) (by omega))
      rw [hr2] at hr
      injection hr with e1 e2
      subst e1
      simp [Value.ownBlock] at hk
      exact .inr (by omega)
theorem wpList_append_t {ops : Array Oper} {rest : List Oper} {o : Oper} {a : Act} {Q : Exit → Act → World → Prop} {w : World} (hgd : o.guard = none) (sl x : Operand) (ho : o.op = .call { callee := .builtin .append, args := #[sl, x], argTypes := #[49, 9] })
    (v : Value) (n : Nat) (l : List UInt8) (hs : a.eval sl = v) (hown : w.ownsRow 0 5 1 v n (byC l)) (s : ByteArray) (hx : a.eval x = .string s) (h63 : n + s.size ≤ 1000000000000)
    (h : ∀ A c w', w'.ownsRow 0 5 1 (.slice A (n + s.size) c) (n + s.size) (byC (l ++ bl s)) → w.grownBy w' v.ownBlock → (∀ k, (Value.slice A (n + s.size) c).ownBlock = some k → v.ownBlock = some k ∨ w.heap.size ≤ k) → wpList Try.prog ops Q rest (a.put o.dst (.slice A (n + s.size) c)) w') : wpList Try.prog ops Q (o :: rest) a w := by
  refine wpList_plain hgd fun K hK => ?_
  obtain ⟨v', w', hr, h2, h3, h4⟩ := run_append_t w o.type v n l hown s h63
  obtain ⟨A, c, rfl, _⟩ := own_row h2
  unfold Oper.wp execOp
  simp only [ho, resolve, invoke, builtin, Sem.run_bind, Sem.run_pure, Result.andThen_ok, List.map_toArray, List.map_cons, List.map_nil, hs, hx, hr]
  exact hK _ _ (h A c w' h2 h3 h4)

section
variable {w w' : World} {r : Nat} {mb mb' : Option Nat} {gm : List UInt8 → Nat} {vm : List UInt8 → Value} {s s' : St}
theorem only_row {v : Option Nat} (h : w.grownBy w' v) : Only (fun k => v = some k) w w' := ⟨h.os, h.tape, h.output, h.size, fun i hi hn => h.block i hi (fun e => hn e.symm)⟩
theorem append_facts (h : DskM w r mb gm vm s) {i : Nat} {f : Fl} (hf : s.files[i]? = some f) {w2 : World} (hg : w.grownBy w2 (vm f.1).ownBlock) :
    w2.cell? ⟨gm f.1, 0, none⟩ = some (vm f.1) ∧ w2.frozen? ⟨gm f.1, 0, none⟩ = false ∧ w2.cell? ⟨r, 0 + 1, none⟩ = some (.int .i64 (usedL s.files : Nat)) ∧ w2.frozen? ⟨r, 1, none⟩ = false ∧ r ≠ gm f.1 := by
  have hfm := List.mem_of_getElem? hf
  have h1 := (h.fil f hfm).box.grown hg (fun e => h.g_ne_v hfm hfm e.symm rfl)
  have h2 := h.box.grown hg (fun e => h.r_ne_v hfm e.symm rfl)
  exact ⟨h1.cell rfl, h1.frozen 0, h2.cell rfl, h2.frozen 1, h.r_ne_g hfm⟩
theorem append_end (h : DskM w r mb gm vm s) {i : Nat} {f : Fl} (hf : s.files[i]? = some f) (b : List UInt8) {v2 : Value} {w2 : World} (hown : w2.ownsRow 0 5 1 v2 (sizeF f + b.length) (byC ((f.2.1 ++ f.2.2) ++ b)))
    (hg : w.grownBy w2 (vm f.1).ownBlock) (hnew : ∀ k, v2.ownBlock = some k → (vm f.1).ownBlock = some k ∨ w.heap.size ≤ k) (x : Int) (hx : x = (usedL s.files : Int) + b.length) :
    DskM ((w2.setCell ⟨gm f.1, 0, none⟩ v2).setCell ⟨r, 1, none⟩ (.int .i64 x)) r mb gm (upd vm f.1 v2) { s with files := s.files.modify i fun _ => (f.1, f.2.1, f.2.2 ++ b) } ∧
    Only (fun k => k = r ∨ k = gm f.1 ∨ (vm f.1).ownBlock = some k) w ((w2.setCell ⟨gm f.1, 0, none⟩ v2).setCell ⟨r, 1, none⟩ (.int .i64 x)) ∧
    (∀ k, FootM r mb gm (upd vm f.1 v2) (s.files.modify i fun _ => (f.1, f.2.1, f.2.2 ++ b)) k → FootM r mb gm vm s.files k ∨ w.heap.size ≤ k) := by
  have hfm := List.mem_of_getElem? hf
  have hne := h.r_ne_g hfm
  have hof : Only (fun k => k = r ∨ k = gm f.1 ∨ (vm f.1).ownBlock = some k) w ((w2.setCell ⟨gm f.1, 0, none⟩ v2).setCell ⟨r, 1, none⟩ (.int .i64 x)) :=
    (((only_row hg).mono fun k e => .inr (.inr e)).setCell ⟨gm f.1, 0, none⟩ _ (.inl (.inr (.inl rfl)))).setCell ⟨r, 1, none⟩ _ (.inl (.inl rfl))
  have hu := used_modify (f' := (f.1, f.2.1, f.2.2 ++ b)) hf
  have hsz : sizeF (f.1, f.2.1, f.2.2 ++ b) = sizeF f + b.length := by unfold sizeF; simp only [List.length_append]; omega
  rw [hsz] at hu
  have hbox : Holds ((w2.setCell ⟨gm f.1, 0, none⟩ v2).setCell ⟨r, 1, none⟩ (.int .i64 x)) r 58 (boxC mb { s with files := s.files.modify i fun _ => (f.1, f.2.1, f.2.2 ++ b) }) := by
    have h2 := h.box.grown hg (fun e => h.r_ne_v hfm e.symm rfl)
    refine cast (congrArg (Holds _ r 58) ?_) ((Holds.aside h2 (a := ⟨gm f.1, 0, none⟩) hne v2).set 1 (.int .i64 x))
    show [Value.map mb, .int .i64 x, _, _, _, _] = [Value.map mb, .int .i64 (usedL (s.files.modify i fun _ => (f.1, f.2.1, f.2.2 ++ b)) : Nat), _, _, _, _]
    rw [show x = ((usedL (s.files.modify i fun _ => (f.1, f.2.1, f.2.2 ++ b)) : Nat) : Int) by omega]
  have hfil : FilM ((w2.setCell ⟨gm f.1, 0, none⟩ v2).setCell ⟨r, 1, none⟩ (.int .i64 x)) (gm f.1) v2 (f.1, f.2.1, f.2.2 ++ b) := by
    refine ⟨?_, ?_⟩
    · have h1 := (h.fil f hfm).box.grown hg (fun e => h.g_ne_v hfm hfm e.symm rfl)
      exact Holds.aside (h1.set 0 v2) (a := ⟨r, 1, none⟩) hne.symm _
    · rw [hsz, show ((f.1, f.2.1, f.2.2 ++ b) : Fl).2.1 ++ ((f.1, f.2.1, f.2.2 ++ b) : Fl).2.2 = (f.2.1 ++ f.2.2) ++ b by simp]
      have hlr := h.box.lt
      have hlg := (h.fil f hfm).lt
      have ho2 : Only (fun k => k = r ∨ k = gm f.1) w2 ((w2.setCell ⟨gm f.1, 0, none⟩ v2).setCell ⟨r, 1, none⟩ (.int .i64 x)) :=
        ((Only.refl _ w2).setCell ⟨gm f.1, 0, none⟩ _ (.inl (.inr rfl))).setCell ⟨r, 1, none⟩ _ (.inl (.inl rfl))
      exact own_only hown ho2 fun j hj e => by
        rcases hnew j e with e2 | e2
        · rcases hj with rfl | rfl
          · exact h.r_ne_v hfm e2 rfl
          · exact h.g_ne_v hfm hfm e2 rfl
        · rcases hj with rfl | rfl <;> omega
  obtain ⟨h1, h2⟩ := h.turn (f' := (f.1, f.2.1, f.2.2 ++ b)) (s' := { s with files := s.files.modify i fun _ => (f.1, f.2.1, f.2.2 ++ b) }) hf rfl rfl hof (fun k hk => hk) hbox hfil hnew
  exact ⟨h1, hof, h2⟩

theorem refu_err {nm b : List UInt8} (h : refuS nm b.length s ≠ 0) : appendS nm b s = (refuS nm b.length s, s) := by
  unfold refuS at h ⊢
  unfold appendS
  split
  · rfl
  · split
    · rfl
    · split
      · rfl
      · rename_i h1 h2 h3
        rw [if_neg h1, if_neg h2, if_neg h3] at h
        exact absurd rfl h
theorem refu_ok {nm b : List UInt8} (h : refuS nm b.length s = 0) : s.off = false ∧ rightL nm = true ∧ ¬ s.room < ((usedL s.files + b.length : Nat) : Int) := by
  unfold refuS at h
  split at h
  · cases h
  · split at h
    · cases h
    · split at h
      · cases h
      · rename_i h1 h2 h3
        exact ⟨off_false h1, by cases hh : rightL nm <;> simp_all, h3⟩

set_option maxRecDepth 100000 in
set_option maxHeartbeats 4000000 in
theorem append_m (h : DskM w r mb gm vm s) (hfit : Fit s) (nm b : List UInt8) (hnm : nm.length ≤ 1000000) (hb : b.length ≤ 1000000) :
    Calls Try.prog 14 #[.pointer (some ⟨r, 0, none⟩), .string (bs nm), .string (bs b)] w (OpRet (.int .i64 (appendS nm b s).1) r mb gm vm s (appendS nm b s).2 w) := by
  have hbs : (bs b).size = b.length := bs_size b
  have HR := Lib.hid (refused_m h hfit hnm b.length hb)
  have H := Lib.hid h
  by_cases he : refuS nm b.length s = 0
  · obtain ⟨ho, hr, hroom⟩ := refu_ok he
    rw [he] at HR
    have HP := Lib.hid (fun w1 (hb : Below w.heap.size w w1) => perform_m (H.out.below hb) hfit ho)
    by_cases hbn : (burnS s).off = true
    · have hv : appendS nm b s = (7, burnS s) := by unfold appendS; rw [if_neg (by rw [ho]; simp), if_neg (by rw [hr]; simp), if_neg hroom, if_pos hbn]
      rw [hv]
      rw [if_pos hbn] at HP
      clear h ho hr hroom he hv hbn
      go_enter Try.func14, Try.ntmps14
      go_wp2_with (first | (go_at_call 33; refine HR.out.mono ?_; rintro e w1 ⟨rfl, hb1⟩; have Hb1 := Lib.hid hb1; clear hb1) | (go_at_call 32; refine (HP.out _ Hb1.out).mono ?_; rintro e w2 ⟨rfl, hd2, ho2⟩; have D2 := Lib.hid hd2; have O2 := Lib.hid ho2; clear hd2 ho2))
      go_ret
      exact ⟨rfl, got_box D2.out rfl ((Only.of_below Hb1.out (fun i hi => .inr hi)).trans O2.out)⟩
    · have hv : appendS nm b s = (0, { burnS s with files := putF nm b s.files }) := by unfold appendS; rw [if_neg (by rw [ho]; simp), if_neg (by rw [hr]; simp), if_neg hroom, if_neg hbn]
      rw [hv]
      rw [if_neg hbn] at HP
      have hnm' : nm.length ≤ 9223372036854775807 := by omega
      have Hfit := Lib.hid (burn_fit hfit)
      have hu := hfit.used
      obtain ⟨us, hus2⟩ : ∃ us, us = usedL s.files := ⟨_, rfl⟩
      rw [← hus2] at hu
      have Hus := Lib.hid hus2
      cases hat : atN nm s.files with
      | some i =>
        obtain ⟨f, hf, hnf⟩ := atN_some hat
        subst hnf
        have hpv : putF f.1 b s.files = s.files.modify i fun _ => (f.1, f.2.1, f.2.2 ++ b) := by
          unfold putF; rw [hat]; simp only; rw [modify_const (fun f => (f.1, f.2.1, f.2.2 ++ b)) hf]
        rw [hpv]
        have HL := Lib.hid (fun w1 (hd1 : DskM w1 r mb gm vm (burnS s)) => look_m hd1 hnm')
        rw [show (burnS s).files = s.files from rfl, hat] at HL
        have Hf := Lib.hid hf
        have hsz : sizeF f ≤ us := by rw [Hus.out]; exact size_used hf
        have Hbb : Hid (bl (bs b) = b) := Lib.hid (bl_bs b)
        clear h ho hr hroom he hv hbn hat hf hpv hus2
        go_enter Try.func14, Try.ntmps14
        go_wp2_with (first
          | (go_at_call 33; refine HR.out.mono ?_; rintro e w1 ⟨rfl, hb1⟩; have Hb1 := Lib.hid hb1; clear hb1)
          | (go_at_call 32; refine (HP.out _ Hb1.out).mono ?_; rintro e w2 ⟨rfl, hd2, ho2⟩; have D2 := Lib.hid hd2; have O2 := Lib.hid ho2; have HL2 := Lib.hid (HL.out _ hd2); obtain ⟨c0, _, _, _, _, _⟩ := hd2.cells; have hfil := hd2.fil f (List.mem_of_getElem? Hf.out); have d0 : w2.cell? ⟨gm f.1, 0, none⟩ = some (vm f.1) := hfil.box.cell rfl; have Hown := Lib.hid hfil.own; clear hfil hd2 ho2)
          | (at_lookup; refine wpList_lookup_run rfl _ _ 56 true rfl _ _ _ rfl rfl HL2.out ?_)
          | (at_builtin; refine wpList_append_t rfl _ _ rfl (vm f.1) (sizeF f) (f.2.1 ++ f.2.2) rfl Hown.out (bs b) rfl (by omega) ?_; intro A3 c3 w3 hown3 hg3 hn3; rw [hbs, Hbb.out] at hown3; rw [hbs] at hn3; obtain ⟨d0, g0, e1, e2, hne⟩ := append_facts D2.out Hf.out hg3; rw [show (burnS s).files = s.files from rfl, ← Hus.out] at e1; have Hown3 := Lib.hid hown3; have Hg3 := Lib.hid hg3; have Hn3 := Lib.hid hn3; clear hown3 hg3 hn3))
        go_ret
        obtain ⟨h1, h2, h3⟩ := append_end D2.out Hf.out b Hown3.out Hg3.out Hn3.out ((us : Int) + b.length) (by rw [Hus.out]; rfl)
        refine ⟨rfl, mb, gm, _, h1, ((Only.of_below Hb1.out (fun i hi => .inr hi)).trans (O2.out.mono (fun _ e => .inl e))).trans (h2.mono fun k e => ?_), fun k hk => ?_⟩
        · rcases e with e | e
          · exact .inl e
          · exact .inr (.inr ⟨f, List.mem_of_getElem? Hf.out, e⟩)
        · rcases h3 k hk with e | e
          · exact .inl e
          · exact .inr (Nat.le_trans Hb1.out.size (Nat.le_trans O2.out.size e))
      | none =>
        have HL := Lib.hid (fun w1 (hd1 : DskM w1 r mb gm vm (burnS s)) => look_m hd1 hnm')
        rw [show (burnS s).files = s.files from rfl, hat] at HL
        have HC := Lib.hid (fun w1 (hd1 : DskM w1 r mb gm vm (burnS s)) => create_m hd1 Hfit.out (nm := nm) hat hnm')
        have Hf := Lib.hid (putF_at [] hat)
        have Hpp := Lib.hid (putF_put b hat)
        have Hnil : Hid (∀ w : World, w.ownsRow 0 5 1 (.slice none 0 0) 0 (byC [])) := Lib.hid (fun w => by rw [byC_eq]; exact World.ownsRow_nil _ _ _ _)
        have Hu3 : Hid (usedL (putF nm [] s.files) = us) := Lib.hid (by rw [put_used_eq, Hus.out]; rfl)
        have Hbb : Hid (bl (bs b) = b) := Lib.hid (bl_bs b)
        clear h ho hr hroom he hv hbn hat hus2
        go_enter Try.func14, Try.ntmps14
        go_wp2_with (first
          | (go_at_call 33; refine HR.out.mono ?_; rintro e w1 ⟨rfl, hb1⟩; have Hb1 := Lib.hid hb1; clear hb1)
          | (go_at_call 32; refine (HP.out _ Hb1.out).mono ?_; rintro e w2 ⟨rfl, hd2, ho2⟩; have D2 := Lib.hid hd2; have O2 := Lib.hid ho2; have HL2 := Lib.hid (HL.out _ hd2); obtain ⟨c0, _, _, _, _, _⟩ := hd2.cells; clear hd2 ho2)
          | (at_lookup; refine wpList_lookup_run rfl _ _ 56 true rfl _ _ _ rfl rfl HL2.out ?_)
          | (go_at_call 34; refine (HC.out _ D2.out).mono ?_; rintro e w3 ⟨g, mb3, rfl, hg3, ho3, hd3, hk3⟩; have D3 := Lib.hid hd3; have O3 := Lib.hid ho3; have K3 := Lib.hid hk3; have G3 := Lib.hid hg3; have hfil := hd3.fil (nm, [], []) (List.mem_of_getElem? Hf.out); simp only [updN_same, upd_same] at hfil; have d0 : w3.cell? ⟨g, 0, none⟩ = some (.slice none 0 0) := hfil.box.cell rfl; clear hfil hd3 ho3 hk3 hg3)
          | (at_builtin; go_loud (refine wpList_append_t rfl (.tmp 38) (.tmp 39) rfl (.slice none 0 0) 0 [] rfl (Hnil.out _) (bs b) rfl (by omega) ?_); intro A4 c4 w4 hown4 hg4 hn4; rw [hbs, Hbb.out] at hown4; rw [hbs] at hn4; have hfa := append_facts D3.out Hf.out (w2 := w4); simp only [updN_same, upd_same] at hfa; obtain ⟨d0, g0, e1, e2, hne⟩ := hfa hg4; replace e1 : w4.cell? ⟨r, 0 + 1, none⟩ = some (.int .i64 (us : Int)) := (by rw [← Hu3.out]; exact e1); have Hown4 := Lib.hid hown4; have Hg4 := Lib.hid hg4; have Hn4 := Lib.hid hn4; clear hown4 hg4 hn4 hfa))
        go_ret
        have hend := append_end D3.out Hf.out b (v2 := .slice A4 (0 + b.length) c4) (w2 := w4)
        simp only [updN_same, upd_same] at hend
        obtain ⟨h1, h2, h3⟩ := hend Hown4.out Hg4.out Hn4.out ((us : Int) + b.length) (by rw [← Hu3.out]; rfl)
        simp only [List.nil_append, Nat.zero_add] at h1 h2 h3
        rw [show (burnS s).files = s.files from rfl, ← Hpp.out] at h1 h3
        have hz2 : w.heap.size ≤ w2.heap.size := Nat.le_trans Hb1.out.size O2.out.size
        have hz3 : w.heap.size ≤ w3.heap.size := Nat.le_trans hz2 O3.out.size
        have hO : Only (FootM r mb gm vm s.files) w w3 := ((Only.of_below Hb1.out (fun i hi => .inr hi)).trans (O2.out.mono (fun _ e => .inl e))).trans (O3.out.mono fun k e => by
          rcases e with e | e
          · exact .inl e
          · exact .inr (.inl e))
        refine ⟨rfl, mb3, updN gm nm g, _, h1, hO.then h2 (fun k e => ?_), fun k hk => ?_⟩
        · rcases e with e | e | e
          · exact .inl (.inl e)
          · have := G3.out; exact .inr (by omega)
          · simp [Value.ownBlock] at e
        · rcases h3 k hk with e | e
          · rcases K3.out k e with e | e
            · exact .inl e
            · exact .inr (Nat.le_trans hz2 e)
          · exact .inr (Nat.le_trans hz3 e)
  · rw [refu_err he]
    have HP := Lib.hid (perform_err _ he (some ⟨r, 0, none⟩))
    have hne : (refuS nm b.length s != 0) = true := by simp [he]
    clear h he
    go_enter Try.func14, Try.ntmps14
    go_wp2_with (first | (go_at_call 33; refine HR.out.mono ?_; rintro e w1 ⟨rfl, hb1⟩; have Hb1 := Lib.hid hb1; clear hb1) | (go_at_call 32; refine (HP.out _).mono ?_; rintro e w' ⟨rfl, rfl⟩))
    go_ret
    exact ⟨rfl, got_box (H.out.below Hb1.out) rfl (Only.of_below Hb1.out (fun i hi => .inr hi))⟩
end
end Go.Proofs.Ytbgfkjafablfiaa
