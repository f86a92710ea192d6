/-
  The contracts of exchequerref03.Bytes and Written.
-/
import Derived.Test.YtdondonmggbmjaaTame
import Derived.Test.YtdondonmggbmjaaRRd
import Derived.Test.YtdondonmggbmjaaPart
namespace Go.Proofs.Ytdondonmggbmjaa
open Go.RowKit

/-- A thing's encoding. -/
def encI (x : It) : List UInt8 := if x.k = 1 then encL x.s.size ++ bl x.s else if x.k = 2 then encL (if x.b = true then 1 else 0) else encL x.n.toNat
theorem encL_bound (n : Nat) (h : n < 18446744073709551616) : (encL n).length ≤ 9 := by rw [encL_length]; have := beL_len8 n h; omega

set_option maxRecDepth 100000 in
set_option maxHeartbeats 1000000 in
theorem refbytes_any (x : It) (w : World) (hok : x.ok) (hn : x.k ≠ 1 → x.k ≠ 2 → 0 ≤ x.n) :
    Calls Try.prog 27 #[.agg #[.int .i64 x.k, .int .i64 x.n, .string x.s, .bool x.b]] w fun e w' => e = .returned (.string (bs (encI x))) ∧ Below w.heap.size w w' := by
  obtain ⟨k, n, s, b⟩ := x
  obtain ⟨_, hn2, hs2⟩ := hok
  simp only at hn hn2 hs2 ⊢
  obtain ⟨w0, hw0⟩ : ∃ w0, w0 = w.alloc (.cells #[.int .i64 k, .int .i64 n, .string s, .bool b] 49) := ⟨_, rfl⟩
  have Hb0 : Hid (Below w.heap.size w w0) := Lib.hid (by rw [hw0]; exact (Below.refl _ _).alloc (Nat.le_refl _) _)
  have H0 : Hid (Holds w0 w.heap.size 49 [.int .i64 k, .int .i64 n, .string s, .bool b]) := Lib.hid (by rw [hw0]; exact Holds.new w 49 _)
  have Hend : Hid (∀ w', Below w0.heap.size w0 w' → Below w.heap.size w w') := Lib.hid (fun w' h => Hb0.out.trans (h.mono Hb0.out.size))
  by_cases hk1 : k = 1
  · subst hk1
    have Hr : Hid (encI ⟨1, n, s, b⟩ = encL s.size ++ bl s) := Lib.hid rfl
    have Hsz : Hid ((encL s.size).length ≤ 9) := Lib.hid (encL_bound _ (by omega))
    obtain ⟨o, ho⟩ : ∃ o, o = bs (encL s.size) := ⟨_, rfl⟩
    have hos : o.size ≤ 9 := by rw [ho, bs_size]; exact Hsz.out
    have hsum : IntKind.i64.wrap ((o.size : Int) + s.size) = o.size + s.size := by simp [IntKind.wrap, IntKind.bits, IntKind.signed]; omega
    have hgw : w.heap.size < w0.heap.size := Holds.lt H0.out
    have Hcat : Hid (bs (encL s.size ++ bl s) = o ++ s) := Lib.hid (by rw [ho, ← bs_append, bs_bl])
    have hinh : Nonempty (InW (Below w0.heap.size w0)) := ⟨⟨w0, Below.refl _ w0⟩⟩
    have Hnum : Hid (∀ x : InW (Below w0.heap.size w0), Calls Try.prog 32 #[.int .i64 (s.size : Int)] x.wd fun e w'' => e = .returned (.string o) ∧ ∃ m : InW (Below w0.heap.size w0), w'' = m.wd) := Lib.hid (fun x => (refnum_any s.size x.wd (by omega)).mono (by rintro e w'' ⟨rfl, hb⟩; exact ⟨by rw [ho], ⟨⟨w'', x.ok.trans (hb.mono x.ok.size)⟩, rfl⟩⟩))
    have hcl : ∀ x : InW (Below w0.heap.size w0), x.wd.cell? ⟨w.heap.size, 2, none⟩ = some (.string s) := fun x => (x.ok.cell (p := ⟨w.heap.size, 2, none⟩) hgw).trans (Holds.cell H0.out rfl)
    rw [Hr.out, Hcat.out]
    clear ho
    go_enter Try.func27, Try.ntmps27
    go_wp2_with fail
    rw [← hw0]
    clear hw0
    refine wp_region_quiet_in (Below w0.heap.size w0) (by kernel_rfl) (by kernel_rfl) ((Below.refl _ w0).drew) ?_
    repeat (go_big_quiet_step ((go_at_call 32; exact Hnum.out _)))
    refine wpQuiet_nil ?_
    intro w3 hx3
    obtain ⟨x3, hx3⟩ := hx3
    have hb3 : Below w0.heap.size w0 w3 := by rw [hx3]; exact x3.ok
    clear hx3 x3 hcl hinh
    go_wp2
    go_ret
    exact ⟨rfl, Hend.out _ hb3⟩
  · by_cases hk2 : k = 2
    · subst hk2
      have d0 := Holds.cell H0.out (i := 0) rfl
      have d3 := Holds.cell H0.out (i := 3) rfl
      clear hk1
      cases b with
      | true =>
        have Hr : Hid (encI ⟨2, n, s, true⟩ = encL 1) := Lib.hid rfl
        rw [Hr.out]
        go_enter Try.func27, Try.ntmps27
        go_wp2_with (go_at_call 32; rw [← hw0]; refine (refnum_any 1 w0 (by omega)).mono ?_; rintro e w' ⟨rfl, hb⟩)
        go_ret
        exact ⟨rfl, Hend.out _ hb⟩
      | false =>
        have Hr : Hid (encI ⟨2, n, s, false⟩ = encL 0) := Lib.hid rfl
        rw [Hr.out]
        go_enter Try.func27, Try.ntmps27
        go_wp2_with (go_at_call 32; rw [← hw0]; refine (refnum_any 0 w0 (by omega)).mono ?_; rintro e w' ⟨rfl, hb⟩)
        go_ret
        exact ⟨rfl, Hend.out _ hb⟩
    · have hn0 := hn hk1 hk2
      obtain ⟨m, rfl⟩ : ∃ m : Nat, n = m := ⟨n.toNat, by omega⟩
      have Hr : Hid (encI ⟨k, m, s, b⟩ = encL m) := Lib.hid (by unfold encI; simp only; rw [if_neg hk1, if_neg hk2]; rfl)
      rw [Hr.out]
      go_enter Try.func27, Try.ntmps27
      go_wp2_with (go_at_call 32; rw [← hw0]; refine (refnum_any m w0 (by omega)).mono ?_; rintro e w' ⟨rfl, hb⟩)
      go_ret
      exact ⟨rfl, Hend.out _ hb⟩

theorem encI_bound (x : It) (hok : x.ok) : (encI x).length ≤ 140737488355400 := by
  obtain ⟨_, hn, hs⟩ := hok
  unfold encI
  split
  · rw [List.length_append, bl_length]
    have := encL_bound x.s.size (by omega)
    omega
  · split
    · have := encL_bound (if x.b = true then 1 else 0) (by split <;> omega)
      omega
    · have := encL_bound x.n.toNat (by omega)
      omega
/-- Whether a thing has an encoding. -/
def badI (x : It) : Prop := x.k = 0 ∧ (x.n < 0 ∨ 4611686018427387903 < x.n)
theorem wrI_bad (x : It) (o : List UInt8) (h : badI x) : wrI x (o, 0) = ([], 1) := by
  obtain ⟨hk, hn⟩ := h
  unfold wrI
  rw [if_neg (by omega), if_neg (by omega)]
  unfold wrN
  rw [if_neg (by simp), if_pos hn]
theorem wrI_enc (x : It) (o : List UInt8) (hk : x.k = 0 ∨ x.k = 1 ∨ x.k = 2) (h : ¬ badI x) : wrI x (o, 0) = if 2097152 < o.length + (encI x).length then ([], 2) else (o ++ encI x, 0) := by
  unfold wrI encI
  by_cases h1 : x.k = 1
  · rw [if_pos h1, if_pos h1]
    unfold wrT wrP
    rw [if_neg (by simp), bl_length]
    simp only [List.length_append, bl_length, Nat.add_assoc, List.append_assoc]
  · rw [if_neg h1, if_neg h1]
    by_cases h2 : x.k = 2
    · rw [if_pos h2, if_pos h2]
      unfold wrF wrN wrP
      rw [if_neg (by simp), if_neg (by split <;> omega)]
      have e : (if x.b = true then (1 : Int) else 0).toNat = if x.b = true then 1 else 0 := by split <;> rfl
      rw [e]
      simp
    · rw [if_neg h2, if_neg h2]
      have h0 : x.k = 0 := by omega
      unfold wrN wrP
      rw [if_neg (by simp), if_neg (fun e => h ⟨h0, e⟩)]
      simp
theorem wrI_stuck (x : It) (st : WSt) (h : st.2 ≠ 0) : wrI x st = st := by
  unfold wrI
  split
  · exact wrT_bad _ _ h
  · split
    · exact wrN_bad _ _ h
    · exact wrN_bad _ _ h
theorem wrAll_stuck (xs : List It) (i : Nat) (h : (wrAll (xs.take i)).2 ≠ 0) : wrAll xs = wrAll (xs.take i) := by
  have key : ∀ (ys : List It) (st : WSt), st.2 ≠ 0 → ys.foldl (fun st x => wrI x st) st = st := by
    intro ys
    induction ys with
    | nil => intro st _; rfl
    | cons y ys ih => intro st hs; rw [List.foldl_cons, wrI_stuck y st hs]; exact ih st hs
  have e : wrAll xs = (xs.drop i).foldl (fun st x => wrI x st) (wrAll (xs.take i)) := by
    unfold wrAll
    rw [← List.foldl_append, List.take_append_drop]
  rw [e]
  exact key _ _ h

theorem own_below' {w w' : World} {base B : Nat} {v : Value} {n : Nat} {xs : List Value} (h : w.ownsRow base 5 1 v n xs) (hb : Below B w w') (hB : w.heap.size ≤ B) : w'.ownsRow base 5 1 v n xs := by
  rcases h.2 with ⟨hv, h0⟩ | ⟨g, cap, cur, hv, hb', hh, r⟩
  · exact ⟨h.1, .inl ⟨hv, h0⟩⟩
  · exact ⟨h.1, .inr ⟨g, cap, cur, hv, hb', (hb.block g (by have := (Array.getElem?_eq_some_iff.1 hh).1; omega)).trans hh, r⟩⟩
/-- What Written answers. -/
def WrtGot (w : World) (st : WSt) (e : Ending) (w' : World) : Prop := e = .returned (.tuple #[.string (bs st.1), .int .i64 (st.2 : Int)]) ∧ Below w.heap.size w w'
/-- What its loop holds: the bytes so far. -/
def WrtAt (w : World) (v : Value) (o : List UInt8) (wr : World) : Prop := wr.ownsRow w.heap.size 5 1 v o.length (byC o) ∧ Below w.heap.size w wr ∧ o.length ≤ 2097152

set_option maxRecDepth 100000 in
set_option maxHeartbeats 2000000 in
theorem written_any (xs : List It) (A : Option Addr) (n cap : Nat) (w : World) (hn : xs.length = n) (hr : IRow w A xs) (hok : ∀ x ∈ xs, x.ok ∧ (x.k = 0 ∨ x.k = 1 ∨ x.k = 2)) (hn2 : n ≤ 1000000) :
    Calls Try.prog 12 #[.slice A n cap] w (WrtGot w (wrAll xs)) := by
  obtain ⟨i0, hi0, hz0, hz1, hz2⟩ := info_parts info5
  have Hr := Lib.hid hr
  have Hok := Lib.hid hok
  have Hn := Lib.hid hn
  clear hr hok hn
  obtain ⟨w0, hw0⟩ : ∃ w0, w0 = w.alloc (.cells #[] 5) := ⟨_, rfl⟩
  have H0 : Hid (WrtAt w (.slice (some ⟨w.heap.size, 0, none⟩) 0 0) [] w0) := Lib.hid (by
    rw [hw0]
    exact ⟨by rw [byC_eq]; exact World.ownsRow_lit w #[] 0 (Nat.le_refl _) (by unfold maxLen; omega) rfl, (Below.refl _ _).alloc (Nat.le_refl _) _, Nat.zero_le _⟩)
  go_enter Try.func12, Try.ntmps12
  go_wp2
  rw [← hw0]
  clear hw0
  go_loopw [4, 5, 6] (fun v iv _ wr => ∃ (i : Nat) (p : Option Addr) (c : Nat) (o : List UInt8), i ≤ n ∧ iv = .int .i64 i ∧ v = .slice p o.length c ∧ wrAll (xs.take i) = (o, 0) ∧ WrtAt w v o wr) (fun _ iv _ _ => n - (intOf iv).toNat)
  case atStart => exact ⟨0, _, _, [], by omega, rfl, rfl, rfl, H0.out⟩
  case round =>
    clear H0
    obtain ⟨i, p, c, o, hi, rfl, rfl, hst, ht⟩ := hrel
    have Ht := Lib.hid ht
    have Hst := Lib.hid hst
    clear ht hst
    obtain ⟨ol, hol⟩ : ∃ ol, ol = o.length := ⟨_, rfl⟩
    have hol2 : ol ≤ 2097152 := by rw [hol]; exact Ht.out.2.2
    have Hol := Lib.hid hol
    have Hown : Hid (wr.ownsRow w.heap.size 5 1 (.slice p ol c) ol (byC o)) := Lib.hid (by rw [hol]; exact Ht.out.1)
    rw [← hol]
    clear hol
    by_cases hlt : i < n
    · obtain ⟨x, hx⟩ : ∃ x, xs[i]? = some x := ⟨_, List.getElem?_eq_getElem (by rw [Hn.out]; exact hlt)⟩
      have Htk := Lib.hid (wrAll_take xs i x hx)
      have Hxok := Lib.hid (Hok.out x (List.mem_of_getElem? hx))
      obtain ⟨b, off, rfl, hbl, c0, c1, c2, c3⟩ := Hr.out i x hx
      have d0 := (Ht.out.2.1.cell (p := ⟨b, off + i * 4, none⟩) hbl).trans c0
      have d1 := (Ht.out.2.1.cell (p := ⟨b, off + i * 4 + 1, none⟩) hbl).trans c1
      have d2 := (Ht.out.2.1.cell (p := ⟨b, off + i * 4 + 2, none⟩) hbl).trans c2
      have d3 := (Ht.out.2.1.cell (p := ⟨b, off + i * 4 + 3, none⟩) hbl).trans c3
      clear c0 c1 c2 c3 hx
      have Hcells : Hid (∀ j v, (itC x)[j]? = some v → wr.cell? ⟨b, off + i * 4 + j, none⟩ = some v) := Lib.hid (fun j v hv => by
        have hj : j < 4 := (List.getElem?_eq_some_iff.1 hv).1
        have : j = 0 ∨ j = 1 ∨ j = 2 ∨ j = 3 := by omega
        rcases this with rfl | rfl | rfl | rfl <;> simp [itC] at hv <;> subst hv <;> assumption)
      by_cases hk0 : x.k = 0
      · have hb0 : (x.k == 0) = true := by rw [hk0]; rfl
        by_cases hneg : x.n < 0
        · have Hres : Hid (wrAll xs = ([], 1)) := Lib.hid (by
            have h := Htk.out
            rw [Hst.out, wrI_bad x o ⟨hk0, .inl hneg⟩] at h
            rw [wrAll_stuck xs (i + 1) (by rw [h]; simp), h])
          go_wp2
          exact bodyPost_ret (v := .tuple #[.string { data := #[] }, .int .i64 1]) (by simp [results, go_sem]) rfl ⟨by rw [Hres.out, bs_nil]; rfl, Ht.out.2.1⟩
        · by_cases hbig : 4611686018427387903 < x.n
          · have Hres : Hid (wrAll xs = ([], 1)) := Lib.hid (by
              have h := Htk.out
              rw [Hst.out, wrI_bad x o ⟨hk0, .inr hbig⟩] at h
              rw [wrAll_stuck xs (i + 1) (by rw [h]; simp), h])
            go_wp2
            exact bodyPost_ret (v := .tuple #[.string { data := #[] }, .int .i64 1]) (by simp [results, go_sem]) rfl ⟨by rw [Hres.out, bs_nil]; rfl, Ht.out.2.1⟩
          · have Hgood : Hid (¬ badI x) := Lib.hid (fun h => by have := h.2; omega)
            have Hpos : Hid (x.k ≠ 1 → x.k ≠ 2 → 0 ≤ x.n) := Lib.hid (fun _ _ => by omega)
            obtain ⟨el, hel⟩ : ∃ el, (encI x).length = el := ⟨_, rfl⟩
            obtain ⟨B, hB⟩ : ∃ B, B = bs (encI x) := ⟨_, rfl⟩
            have hBs : B.size = el := by rw [hB, bs_size, hel]
            have hel2 : el ≤ 140737488355400 := by rw [← hel]; exact encI_bound x Hxok.out.1
            have hel0 : 0 < el := by
              rw [← hel]
              unfold encI
              split
              · rw [List.length_append, encL_length]; omega
              · split <;> rw [encL_length] <;> omega
            have Hel := Lib.hid hel
            have HB := Lib.hid hB
            have HBl : Hid (bl B = encI x) := Lib.hid (by rw [hB, bl_bs])
            have Hinfo : Hid ((Try.prog.info? 49).map (·.size) = some (itC x).length) := Lib.hid (show _ = some 4 by kernel_rfl)
            clear hel hB
            by_cases hlong : 2097152 < ol + el
            · have Hres : Hid (wrAll xs = ([], 2)) := Lib.hid (by
                have h := Htk.out
                rw [Hst.out, wrI_enc x o Hxok.out.2 Hgood.out, if_pos (by rw [← Hol.out, Hel.out]; exact hlong)] at h
                rw [wrAll_stuck xs (i + 1) (by rw [h]; simp), h])
              have hlong' : (2097152 : Int) < (ol : Int) + el := by omega
              go_wp2_with (first | (refine wpList_load_part rfl 49 (.tmp 38) rfl b (off + i * 4) rfl (itC x) _ Hcells.out Try.underlying49 rfl Hinfo.out ?_) | (go_at_call 27; refine (refbytes_any x wr Hxok.out.1 Hpos.out).mono ?_; rintro e w1 ⟨rfl, hb1⟩; rw [← HB.out]))
              exact bodyPost_ret (v := .tuple #[.string { data := #[] }, .int .i64 2]) (by simp [results, go_sem]) rfl ⟨by rw [Hres.out, bs_nil]; rfl, Ht.out.2.1.trans (hb1.mono Ht.out.2.1.size)⟩
            · have Hres : Hid (wrAll (xs.take (i + 1)) = (o ++ encI x, 0)) := Lib.hid (by
                have h := Htk.out
                rw [Hst.out, wrI_enc x o Hxok.out.2 Hgood.out, if_neg (by rw [← Hol.out, Hel.out]; exact hlong)] at h
                exact h)
              have hlong' : ¬ (2097152 : Int) < (ol : Int) + el := by omega
              have Hm3 : Hid (ol + B.size ≤ maxLen) := Lib.hid (by unfold maxLen; omega)
              have Hm4 : Hid (ol + B.size ≤ 140737488355328) := Lib.hid (by omega)
              have Hlen2 : Hid ((o ++ encI x).length = ol + el) := Lib.hid (by rw [List.length_append, ← Hol.out, Hel.out])
              go_wp2_with (first | (refine wpList_load_part rfl 49 (.tmp 38) rfl b (off + i * 4) rfl (itC x) _ Hcells.out Try.underlying49 rfl Hinfo.out ?_) | (go_at_call 27; refine (refbytes_any x wr Hxok.out.1 Hpos.out).mono ?_; rintro e w1 ⟨rfl, hb1⟩; rw [← HB.out]; have Hb1 := Lib.hid hb1; have Hown1 := Lib.hid (own_below' Hown.out hb1 (Nat.le_refl _)); clear hb1) | (at_builtin; go_loud (refine Lib.wpList_append_own_string _ rfl (.tmp 47) (.tmp 48) 51 9 rfl w.heap.size 5 i0 Try.underlying51 Try.underlying9 hi0 hz0 hz1 hz2 (.slice p ol c) ol (byC o) rfl Hown1.out B rfl Hm3.out Hm4.out (Nat.le_trans Ht.out.2.1.size Hb1.out.size) ?_); intro v2 w2 hown2 hgrow2 hiff2; obtain ⟨g2, cap2, rfl, hg2a, hg2b⟩ := hown2.form (by omega)))
              have Hown2 : Hid (w2.ownsRow w.heap.size 5 1 (.slice (some ⟨g2, 0, none⟩) (ol + el) cap2) (ol + el) (byC (o ++ encI x))) := Lib.hid (by
                rw [byC_append, ← HBl.out, ← strCells_eq, ← hBs]
                exact hown2)
              have Hb2 : Hid (Below w.heap.size w w2) := Lib.hid ((Ht.out.2.1.trans (Hb1.out.mono Ht.out.2.1.size)).grown hgrow2 (Nat.le_trans Ht.out.2.1.size Hb1.out.size) (fun k hk => (World.ownsRow.lt Hown1.out k hk).1))
              clear hown2 hgrow2 hiff2 hg2a hg2b Hown1
              go_roundw
              case rel => exact ⟨i + 1, some ⟨g2, 0, none⟩, cap2, o ++ encI x, by omega, by go_num, by first | rw [Hlen2.out, hBs] | rw [Hlen2.out], Hres.out, by first | (rw [hBs, Hlen2.out]; exact Hown2.out) | (rw [Hlen2.out]; exact Hown2.out), Hb2.out, by rw [Hlen2.out]; omega⟩
              case measure => simp [intOf]; omega
      · have hb0 : (x.k == 0) = false := by rw [beq_eq_false_iff_ne]; exact hk0
        have Hgood : Hid (¬ badI x) := Lib.hid (fun h => hk0 h.1)
        have Hpos : Hid (x.k ≠ 1 → x.k ≠ 2 → 0 ≤ x.n) := Lib.hid (fun h1 h2 => by have := Hxok.out.2; omega)
        obtain ⟨el, hel⟩ : ∃ el, (encI x).length = el := ⟨_, rfl⟩
        obtain ⟨B, hB⟩ : ∃ B, B = bs (encI x) := ⟨_, rfl⟩
        have hBs : B.size = el := by rw [hB, bs_size, hel]
        have hel2 : el ≤ 140737488355400 := by rw [← hel]; exact encI_bound x Hxok.out.1
        have hel0 : 0 < el := by
          rw [← hel]
          unfold encI
          split
          · rw [List.length_append, encL_length]; omega
          · split <;> rw [encL_length] <;> omega
        have Hel := Lib.hid hel
        have HB := Lib.hid hB
        have HBl : Hid (bl B = encI x) := Lib.hid (by rw [hB, bl_bs])
        have Hinfo : Hid ((Try.prog.info? 49).map (·.size) = some (itC x).length) := Lib.hid (show _ = some 4 by kernel_rfl)
        clear hel hB
        by_cases hlong : 2097152 < ol + el
        · have Hres : Hid (wrAll xs = ([], 2)) := Lib.hid (by
            have h := Htk.out
            rw [Hst.out, wrI_enc x o Hxok.out.2 Hgood.out, if_pos (by rw [← Hol.out, Hel.out]; exact hlong)] at h
            rw [wrAll_stuck xs (i + 1) (by rw [h]; simp), h])
          have hlong' : (2097152 : Int) < (ol : Int) + el := by omega
          go_wp2_with (first | (refine wpList_load_part rfl 49 (.tmp 38) rfl b (off + i * 4) rfl (itC x) _ Hcells.out Try.underlying49 rfl Hinfo.out ?_) | (go_at_call 27; refine (refbytes_any x wr Hxok.out.1 Hpos.out).mono ?_; rintro e w1 ⟨rfl, hb1⟩; rw [← HB.out]))
          exact bodyPost_ret (v := .tuple #[.string { data := #[] }, .int .i64 2]) (by simp [results, go_sem]) rfl ⟨by rw [Hres.out, bs_nil]; rfl, Ht.out.2.1.trans (hb1.mono Ht.out.2.1.size)⟩
        · have Hres : Hid (wrAll (xs.take (i + 1)) = (o ++ encI x, 0)) := Lib.hid (by
            have h := Htk.out
            rw [Hst.out, wrI_enc x o Hxok.out.2 Hgood.out, if_neg (by rw [← Hol.out, Hel.out]; exact hlong)] at h
            exact h)
          have hlong' : ¬ (2097152 : Int) < (ol : Int) + el := by omega
          have Hm3 : Hid (ol + B.size ≤ maxLen) := Lib.hid (by unfold maxLen; omega)
          have Hm4 : Hid (ol + B.size ≤ 140737488355328) := Lib.hid (by omega)
          have Hlen2 : Hid ((o ++ encI x).length = ol + el) := Lib.hid (by rw [List.length_append, ← Hol.out, Hel.out])
          go_wp2_with (first | (refine wpList_load_part rfl 49 (.tmp 38) rfl b (off + i * 4) rfl (itC x) _ Hcells.out Try.underlying49 rfl Hinfo.out ?_) | (go_at_call 27; refine (refbytes_any x wr Hxok.out.1 Hpos.out).mono ?_; rintro e w1 ⟨rfl, hb1⟩; rw [← HB.out]; have Hb1 := Lib.hid hb1; have Hown1 := Lib.hid (own_below' Hown.out hb1 (Nat.le_refl _)); clear hb1) | (at_builtin; go_loud (refine Lib.wpList_append_own_string _ rfl (.tmp 47) (.tmp 48) 51 9 rfl w.heap.size 5 i0 Try.underlying51 Try.underlying9 hi0 hz0 hz1 hz2 (.slice p ol c) ol (byC o) rfl Hown1.out B rfl Hm3.out Hm4.out (Nat.le_trans Ht.out.2.1.size Hb1.out.size) ?_); intro v2 w2 hown2 hgrow2 hiff2; obtain ⟨g2, cap2, rfl, hg2a, hg2b⟩ := hown2.form (by omega)))
          have Hown2 : Hid (w2.ownsRow w.heap.size 5 1 (.slice (some ⟨g2, 0, none⟩) (ol + el) cap2) (ol + el) (byC (o ++ encI x))) := Lib.hid (by
            rw [byC_append, ← HBl.out, ← strCells_eq, ← hBs]
            exact hown2)
          have Hb2 : Hid (Below w.heap.size w w2) := Lib.hid ((Ht.out.2.1.trans (Hb1.out.mono Ht.out.2.1.size)).grown hgrow2 (Nat.le_trans Ht.out.2.1.size Hb1.out.size) (fun k hk => (World.ownsRow.lt Hown1.out k hk).1))
          clear hown2 hgrow2 hiff2 hg2a hg2b Hown1
          go_roundw
          case rel => exact ⟨i + 1, some ⟨g2, 0, none⟩, cap2, o ++ encI x, by omega, by go_num, by first | rw [Hlen2.out, hBs] | rw [Hlen2.out], Hres.out, by first | (rw [hBs, Hlen2.out]; exact Hown2.out) | (rw [Hlen2.out]; exact Hown2.out), Hb2.out, by rw [Hlen2.out]; omega⟩
          case measure => simp [intOf]; omega
    · have Hall : Hid (wrAll xs = (o, 0)) := Lib.hid (by
        have := Hst.out
        rw [List.take_of_length_le (by rw [Hn.out]; omega)] at this
        exact this)
      have hcv : (convert 51 9 (.slice p ol c)).run Try.prog wr = .ok (.string (bs o)) wr := conv_owned (v := .slice p ol c) (l := o) (by rw [← Hol.out]; exact Hown.out)
      go_wp2
      exact bodyPost_ret (v := .tuple #[.string (bs o), .int .i64 0]) (by simp [results, go_sem]) rfl ⟨by rw [Hall.out]; rfl, Ht.out.2.1⟩
end Go.Proofs.Ytdondonmggbmjaa
