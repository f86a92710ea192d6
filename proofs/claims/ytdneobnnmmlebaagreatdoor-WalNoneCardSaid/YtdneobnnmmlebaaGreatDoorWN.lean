/- Texts of one claim, joined: WL WM WN. -/
import Derived.Test.YtdneobnnmmlebaaGreatDoorWK
import Derived.Laws.StructEq
import Derived.Lib.AppendIntMem
/-
  Two records compared; the contract of the reference's Same.
-/
namespace Go.Proofs.YtdneobnnmmlebaaGreatDoor
open Go.RowKit

def sameR (r q : Rc) : Bool := r.kind == q.kind && (r.idx == q.idx && (r.term == q.term && (r.vote == q.vote && r.data == q.data)))
theorem sameR_iff {r q : Rc} : sameR r q = true ↔ r = q := by
  obtain ⟨a, b, c, d, e⟩ := r
  obtain ⟨a', b', c', d', e'⟩ := q
  unfold sameR
  simp
theorem fields28 : Tryz.prog.underlying 28 = some (.struct (Tryz.prog.fieldsOf 28)) := by kernel_rfl
theorem stood28 : Tryz.prog.stoodInHeld 28 = false := by kernel_rfl
theorem part5 (x0 x1 x2 x3 : Int) (s : ByteArray) (w : World) : (part 3 #[.int .i64 x0, .int .i64 x1, .int .i64 x2, .int .i64 x3, .string s] 0).run Tryz.prog w = .ok (.int .i64 x0) w ∧ (part 3 #[.int .i64 x0, .int .i64 x1, .int .i64 x2, .int .i64 x3, .string s] 1).run Tryz.prog w = .ok (.int .i64 x1) w ∧
    (part 3 #[.int .i64 x0, .int .i64 x1, .int .i64 x2, .int .i64 x3, .string s] 2).run Tryz.prog w = .ok (.int .i64 x2) w ∧ (part 3 #[.int .i64 x0, .int .i64 x1, .int .i64 x2, .int .i64 x3, .string s] 3).run Tryz.prog w = .ok (.int .i64 x3) w ∧
    (part 9 #[.int .i64 x0, .int .i64 x1, .int .i64 x2, .int .i64 x3, .string s] 4).run Tryz.prog w = .ok (.string s) w := ⟨by kernel_rfl, by kernel_rfl, by kernel_rfl, by kernel_rfl, by kernel_rfl⟩
theorem neq_rec (r q : Rc) (w : World) : (binOp .neq 28 (recV r) (recV q)).run Tryz.prog w = .ok (.bool (!sameR r q)) w := by
  unfold recV
  rw [run_neq_struct, run_equalIn_struct w 9999 28 _ _ fields28 stood28]
  have hf : (Tryz.prog.fieldsOf 28).toList.map (fun f => (decide (f.name ≠ "_"), f.type, f.offset)) = [(true, 3, 0), (true, 3, 1), (true, 3, 2), (true, 3, 3), (true, 9, 4)] := by kernel_rfl
  generalize (Tryz.prog.fieldsOf 28).toList = fs at hf ⊢
  have hlen : fs.length = 5 := by simpa using congrArg List.length hf
  obtain ⟨a, b, c, d, e, rfl⟩ : ∃ a b c d e, fs = [a, b, c, d, e] := by
    rcases fs with _ | ⟨a, _ | ⟨b, _ | ⟨c, _ | ⟨d, _ | ⟨e, _ | ⟨x, fs⟩⟩⟩⟩⟩⟩
    · simp at hlen
    · simp at hlen
    · simp at hlen
    · simp at hlen
    · simp at hlen
    · exact ⟨a, b, c, d, e, rfl⟩
    · simp at hlen
  simp only [List.map_cons, List.map_nil, List.cons.injEq, Prod.mk.injEq, decide_eq_true_eq, and_true] at hf
  obtain ⟨⟨a1, a2, a3⟩, ⟨b1, b2, b3⟩, ⟨c1, c2, c3⟩, ⟨d1, d2, d3⟩, e1, e2, e3⟩ := hf
  obtain ⟨p0, p1, p2, p3, p4⟩ := part5 r.kind r.idx r.term r.vote (bs r.data) w
  obtain ⟨q0, q1, q2, q3, q4⟩ := part5 q.kind q.idx q.term q.vote (bs q.data) w
  simp only [Op.eqFields, a2, a3, b2, b3, c2, c3, d2, d3, e2, e3, if_pos a1, if_pos b1, if_pos c1, if_pos d1, if_pos e1, Sem.run_bind, p0, p1, p2, p3, p4, q0, q1, q2, q3, q4, Result.andThen_ok,
    run_equalIn_int w 9998 3 .i64 .i64 _ _ Tryz.underlying3, run_equalIn_string w 9998 9 _ _ Tryz.underlying9, Sem.run_ite, Sem.run_pure, bs_toList]
  unfold sameR
  by_cases h1 : r.kind = q.kind <;> by_cases h2 : r.idx = q.idx <;> by_cases h3 : r.term = q.term <;> by_cases h4 : r.vote = q.vote <;> by_cases h5 : r.data = q.data <;> simp [h1, h2, h3, h4, h5]

def sameB : List Rc → List Rc → Bool
  | [], [] => true
  | r :: l, q :: m => sameR r q && sameB l m
  | _, _ => false
theorem sameB_iff : ∀ {l m : List Rc}, sameB l m = true ↔ l = m
  | [], [] => by simp [sameB]
  | [], _ :: _ => by simp [sameB]
  | _ :: _, [] => by simp [sameB]
  | r :: l, q :: m => by simp [sameB, sameR_iff, sameB_iff]
set_option maxRecDepth 100000 in
set_option maxHeartbeats 4000000 in
theorem refsame_any (l m : List Rc) (A B : Option Addr) (n k ca cb : Nat) (w : World) (hl : l.length = n) (hm : m.length = k) (hrow : RowAt w A (rcC l)) (hrow2 : RowAt w B (rcC m)) (hn : n ≤ 9223372036854775807) (hk : k ≤ 9223372036854775807) :
    Calls Tryz.prog 18 #[.slice A n ca, .slice B k cb] w fun e w' => e = .returned (.bool (sameB l m)) ∧ Below w.heap.size w w' := by
  have Hrow := Lib.hid hrow
  have Hrow2 := Lib.hid hrow2
  have Hl := Lib.hid hl
  have Hm := Lib.hid hm
  clear hrow hrow2 hl hm
  by_cases hnk : n = k
  · subst hnk
    have hz : (((n : Nat) : Int) != (n : Int)) = false := by simp
    have Hneq := Lib.hid (fun r q W => neq_rec r q W)
    go_enter Tryz.func18, Tryz.ntmps18
    go_wp2
    go_loopw [5] (fun iv wr => ∃ i : Nat, i ≤ n ∧ iv = .int .i64 i ∧ l.take i = m.take i ∧ Below w.heap.size w wr) (fun iv _ => n - (intOf iv).toNat)
    case atStart => exact ⟨0, Nat.zero_le _, rfl, rfl, Below.refl _ _⟩
    case round =>
      obtain ⟨i, hi, rfl, hal, hb⟩ := hrel
      have Hal := Lib.hid hal
      have Hb := Lib.hid hb
      clear hal
      by_cases hlt : i < n
      · have hltz : (i : Int) < (n : Int) := by omega
        obtain ⟨r, hr⟩ : ∃ r, l[i]? = some r := ⟨_, List.getElem?_eq_getElem (by rw [Hl.out]; exact hlt)⟩
        obtain ⟨q, hq⟩ : ∃ q, m[i]? = some q := ⟨_, List.getElem?_eq_getElem (by rw [Hm.out]; exact hlt)⟩
        obtain ⟨b, off, rfl, hbl, c0, c1, c2, c3, c4⟩ := row_rec Hrow.out hr
        obtain ⟨b', off', rfl, hbl', k0, k1, k2, k3, k4⟩ := row_rec Hrow2.out hq
        have d0 := (hb.cell (p := ⟨b, off + i * 5, none⟩) hbl).trans c0
        have d1 := (hb.cell (p := ⟨b, off + i * 5 + 1, none⟩) hbl).trans c1
        have d2 := (hb.cell (p := ⟨b, off + i * 5 + 2, none⟩) hbl).trans c2
        have d3 := (hb.cell (p := ⟨b, off + i * 5 + 3, none⟩) hbl).trans c3
        have d4 := (hb.cell (p := ⟨b, off + i * 5 + 4, none⟩) hbl).trans c4
        have g0 := (hb.cell (p := ⟨b', off' + i * 5, none⟩) hbl').trans k0
        have g1 := (hb.cell (p := ⟨b', off' + i * 5 + 1, none⟩) hbl').trans k1
        have g2 := (hb.cell (p := ⟨b', off' + i * 5 + 2, none⟩) hbl').trans k2
        have g3 := (hb.cell (p := ⟨b', off' + i * 5 + 3, none⟩) hbl').trans k3
        have g4 := (hb.cell (p := ⟨b', off' + i * 5 + 4, none⟩) hbl').trans k4
        have hne := Hneq.out r q
        unfold recV at hne
        have Hr := Lib.hid hr
        have Hq := Lib.hid hq
        clear c0 c1 c2 c3 c4 k0 k1 k2 k3 k4 hr hq hb hbl hbl'
        by_cases hok : sameR r q = true
        · rw [hok] at hne
          have Hn : Hid (l.take (i + 1) = m.take (i + 1)) := Lib.hid (by rw [List.take_add_one, List.take_add_one, Hr.out, Hq.out, Hal.out, sameR_iff.1 hok])
          clear hok
          go_wp2
          go_quiet (fail)
          go_wp2
          go_roundw
          case rel => exact ⟨i + 1, by omega, by go_num, Hn.out, by first | exact Hb.out | exact below_drewN Hb.out _⟩
          case measure => simp [intOf]; omega
        · have hf : sameR r q = false := by cases h : sameR r q <;> simp_all
          have Hn : Hid (sameB l m = false) := Lib.hid (by
            cases h : sameB l m with
            | false => rfl
            | true =>
              rw [sameB_iff] at h
              rw [h] at Hr
              have := Hr.out.symm.trans Hq.out
              injection this with this
              rw [sameR_iff.2 this] at hf; cases hf)
          rw [hf] at hne
          clear hok hf
          go_wp2
          go_quiet (fail)
          go_wp2
          go_ret
          exact ⟨by rw [Hn.out]; rfl, by first | exact Hb.out | exact below_drewN Hb.out _⟩
      · have hltz : ¬ (i : Int) < (n : Int) := by omega
        have Hn : Hid (sameB l m = true) := Lib.hid (by
          rw [sameB_iff]
          have := Hal.out
          rwa [List.take_of_length_le (by rw [Hl.out]; omega), List.take_of_length_le (by rw [Hm.out]; omega)] at this)
        clear hb
        go_wp2
        go_ret
        exact ⟨by rw [Hn.out]; rfl, Hb.out⟩
  · have hz : (((n : Nat) : Int) != (k : Int)) = true := by rw [bne_iff_ne]; omega
    have Hn : Hid (sameB l m = false) := Lib.hid (by
      cases h : sameB l m with
      | false => rfl
      | true => rw [sameB_iff] at h; rw [h] at Hl; exact absurd (Hl.out.symm.trans Hm.out) hnk)
    clear hnk
    go_enter Tryz.func18, Tryz.ntmps18
    go_wp2
    go_ret
    exact ⟨by rw [Hn.out]; rfl, Below.refl _ _⟩
end Go.Proofs.YtdneobnnmmlebaaGreatDoor

/-
  The contracts of the law's begins and right, of the reference's File.
-/
namespace Go.Proofs.YtdneobnnmmlebaaGreatDoor
open Go.RowKit

theorem rcC_take (l : List Rc) (i : Nat) : rcC (l.take i) = (rcC l).take (i * 5) := by
  induction l generalizing i with
  | nil => simp [rcC]
  | cons r l ih =>
    cases i with
    | zero => simp [rcC]
    | succ i => rw [List.take_succ_cons, rcC_cons, rcC_cons, ih, show (i + 1) * 5 = (recC1 r).length + i * 5 by simp [recC1]; omega, List.take_length_add_append]
theorem row_take {w : World} {A : Option Addr} {l : List Rc} (h : RowAt w A (rcC l)) (i : Nat) : RowAt w A (rcC (l.take i)) := fun j v hv => by
  rw [rcC_take] at hv
  exact h j v (by
    rw [List.getElem?_take] at hv
    split at hv
    · exact hv
    · cases hv)
theorem rowR_below {w w' : World} {A : Option Addr} {l : List Rc} (h : RowAt w A (rcC l)) (hb : Below w.heap.size w w') : RowAt w' A (rcC l) := h.below hb (Nat.le_refl _)
def beginsB (l m : List Rc) (least : Int) : Bool := decide (least ≤ (l.length : Int)) && (decide (l.length ≤ m.length) && sameB l (m.take l.length))
set_option maxRecDepth 100000 in
set_option maxHeartbeats 4000000 in
theorem begins_any (l m : List Rc) (A B : Option Addr) (n k ca cb : Nat) (least : Int) (w : World) (hl : l.length = n) (hm : m.length = k) (hrow : RowAt w A (rcC l)) (hrow2 : RowAt w B (rcC m)) (hkc : k ≤ cb) (hn : n ≤ 9223372036854775807) :
    Calls Tryz.prog 16 #[.slice A n ca, .slice B k cb, .int .i64 least] w fun e w' => e = .returned (.bool (beginsB l m least)) ∧ Below w.heap.size w w' := by
  have Hl := Lib.hid hl
  have Hm := Lib.hid hm
  by_cases h1 : least ≤ (n : Int)
  · by_cases h2 : n ≤ k
    · have h2z : (n : Int) ≤ (k : Int) := by omega
      have HS := Lib.hid (refsame_any l (m.take n) A B n n ca cb w hl (by rw [List.length_take]; omega) hrow (row_take hrow2 n) (by omega) (by omega))
      have Hd : Hid (beginsB l m least = sameB l (m.take n)) := Lib.hid (by unfold beginsB; rw [hl, hm, decide_eq_true h1, decide_eq_true h2]; rfl)
      have hnc : n ≤ cb := by omega
      rw [Hd.out]
      clear hl hm hrow hrow2 h2
      cases B with
      | none =>
        go_enter Tryz.func16, Tryz.ntmps16
        go_wp2_with (go_at_call 18; refine HS.out.mono ?_; rintro e w1 ⟨rfl, hb1⟩; have Hb1 := Lib.hid hb1; clear hb1)
        go_ret
        exact ⟨rfl, Hb1.out⟩
      | some b =>
        go_enter Tryz.func16, Tryz.ntmps16
        go_wp2_with (go_at_call 18; refine HS.out.mono ?_; rintro e w1 ⟨rfl, hb1⟩; have Hb1 := Lib.hid hb1; clear hb1)
        go_ret
        exact ⟨rfl, Hb1.out⟩
    · have h2z : ¬ (n : Int) ≤ (k : Int) := by omega
      have Hd : Hid (beginsB l m least = false) := Lib.hid (by unfold beginsB; rw [hl, hm, decide_eq_false h2, Bool.false_and, Bool.and_false])
      clear hl hm hrow hrow2 h2
      go_enter Tryz.func16, Tryz.ntmps16
      go_wp2
      go_ret
      exact ⟨by rw [Hd.out]; rfl, Below.refl _ _⟩
  · have Hd : Hid (beginsB l m least = false) := Lib.hid (by unfold beginsB; rw [hl, decide_eq_false h1, Bool.false_and])
    clear hl hm hrow hrow2
    go_enter Tryz.func16, Tryz.ntmps16
    go_wp2
    go_ret
    exact ⟨by rw [Hd.out]; rfl, Below.refl _ _⟩

/-- Only the right ones, the first forty, none of them long. -/
def fewP (o : List Rc) (r : Rc) : Bool := decide (o.length < 40) && (decide (r.data.length ≤ 1000) && decide (rightR r))
def fewL (l : List Rc) : List Rc := l.foldl (fun o r => if fewP o r = true then o ++ [r] else o) []
theorem fewL_take {l : List Rc} {i : Nat} {r : Rc} (h : l[i]? = some r) : fewL (l.take (i + 1)) = if fewP (fewL (l.take i)) r = true then fewL (l.take i) ++ [r] else fewL (l.take i) := by
  unfold fewL
  rw [List.take_add_one, h]
  simp only [Option.toList_some, List.foldl_append, List.foldl_cons, List.foldl_nil]
theorem fewL_small (l : List Rc) : Small (fewL l) ∧ (fewL l).length ≤ 40 := by
  have key : ∀ (l o : List Rc), Small o → o.length ≤ 40 → Small (l.foldl (fun o r => if fewP o r = true then o ++ [r] else o) o) ∧ (l.foldl (fun o r => if fewP o r = true then o ++ [r] else o) o).length ≤ 40 := by
    intro l
    induction l with
    | nil => intro o h1 h2; exact ⟨h1, h2⟩
    | cons r l ih =>
      intro o h1 h2
      rw [List.foldl_cons]
      split
      · rename_i h
        unfold fewP at h
        simp only [Bool.and_eq_true, decide_eq_true_eq] at h
        exact ih _ (h1.append (fun x hx => by
          have e : x = r := by simpa using hx
          subst e
          exact ⟨h.2.2, h.2.1⟩)) (by rw [List.length_append]; simp; omega)
      · exact ih _ h1 h2
  exact key l [] (fun _ h => by cases h) (Nat.zero_le _)
theorem infoR : (Tryz.prog.info? 28).map (fun i => (i.zero, i.size, i.bytes)) = some (some (.agg #[.int .i64 0, .int .i64 0, .int .i64 0, .int .i64 0, .string { data := #[] }]), 5, 48) := by kernel_rfl

set_option maxRecDepth 100000 in
set_option maxHeartbeats 4000000 in
theorem right7_any (l : List Rc) (A : Option Addr) (n cap : Nat) (w : World) (hlen : l.length = n) (hrow : RowAt w A (rcC l)) (hd : ∀ r ∈ l, r.data.length ≤ 9223372036854775807) (hn : n ≤ 9223372036854775807) :
    Calls Tryz.prog 17 #[.slice A n cap] w fun e w' => ∃ v, e = .returned v ∧ w'.ownsRow w.heap.size 28 5 v (fewL l).length (rcC (fewL l)) ∧ Below w.heap.size w w' := by
  obtain ⟨i0, hi0, hz0, hz1, hz2⟩ := info_parts infoR
  have Hrow := Lib.hid hrow
  have Hlen := Lib.hid hlen
  have Hd := Lib.hid hd
  clear hrow hlen hd
  go_enter Tryz.func17, Tryz.ntmps17
  go_wp2
  go_loopw [3, 7] (fun ov iv wr => ∃ i : Nat, i ≤ n ∧ iv = .int .i64 i ∧ wr.ownsRow w.heap.size 28 5 ov (fewL (l.take i)).length (rcC (fewL (l.take i))) ∧ Below w.heap.size w wr) (fun _ iv _ => n - (intOf iv).toNat)
  case atStart => exact ⟨0, Nat.zero_le _, rfl, World.ownsRow_nil _ _ _ _, Below.refl _ _⟩
  case round =>
    obtain ⟨i, hi, rfl, hown, hb⟩ := hrel
    have Hown := Lib.hid hown
    have Hb := Lib.hid hb
    obtain ⟨A1, c1, hov, _⟩ := own_row hown
    subst hov
    have hk40 := (fewL_small (l.take i)).2
    clear hown
    by_cases hlt : i < n
    · have hltz : (i : Int) < (n : Int) := by omega
      obtain ⟨r, hr⟩ : ∃ r, l[i]? = some r := ⟨_, List.getElem?_eq_getElem (by rw [Hlen.out]; exact hlt)⟩
      obtain ⟨b, off, rfl, hbl, c0, c1', c2, c3, c4⟩ := row_rec Hrow.out hr
      have d0 := (hb.cell (p := ⟨b, off + i * 5, none⟩) hbl).trans c0
      have d1 := (hb.cell (p := ⟨b, off + i * 5 + 1, none⟩) hbl).trans c1'
      have d2 := (hb.cell (p := ⟨b, off + i * 5 + 2, none⟩) hbl).trans c2
      have d3 := (hb.cell (p := ⟨b, off + i * 5 + 3, none⟩) hbl).trans c3
      have d4 := (hb.cell (p := ⟨b, off + i * 5 + 4, none⟩) hbl).trans c4
      have HR := Lib.hid (refright_any r wr (Hd.out r (List.mem_of_getElem? hr)))
      have hbs : (bs r.data).size = r.data.length := bs_size _
      have Hst := Lib.hid (fewL_take hr)
      have Hbl := Lib.hid hbl
      have Hc := Lib.hid (And.intro c0 (And.intro c1' (And.intro c2 (And.intro c3 c4))))
      clear c0 c1' c2 c3 c4 hr hb hbl
      generalize fewL (l.take i) = o at *
      by_cases h1 : o.length < 40
      · have h1z : ((o.length : Nat) : Int) < 40 := by omega
        by_cases h2 : r.data.length ≤ 1000
        · have h2z : ((r.data.length : Nat) : Int) ≤ 1000 := by omega
          by_cases h3 : rightR r
          · rw [decide_eq_true h3] at HR
            have Hn : Hid (fewL (l.take (i + 1)) = o ++ [r]) := Lib.hid (by rw [Hst.out, if_pos (by unfold fewP; rw [decide_eq_true h1, decide_eq_true h2, decide_eq_true h3]; rfl)])
            clear h1 h2 h3
            go_wp2_with (first
              | (go_at_call 8; refine HR.out.mono ?_; rintro e w1 ⟨rfl, hb1⟩; have Hb1 := Lib.hid hb1; have hb2 := Hb.out.trans (hb1.mono Hb.out.size); have d0 := (hb2.cell (p := ⟨b, off + i * 5, none⟩) Hbl.out).trans Hc.out.1; have d1 := (hb2.cell (p := ⟨b, off + i * 5 + 1, none⟩) Hbl.out).trans Hc.out.2.1; have d2 := (hb2.cell (p := ⟨b, off + i * 5 + 2, none⟩) Hbl.out).trans Hc.out.2.2.1; have d3 := (hb2.cell (p := ⟨b, off + i * 5 + 3, none⟩) Hbl.out).trans Hc.out.2.2.2.1; have d4 := (hb2.cell (p := ⟨b, off + i * 5 + 4, none⟩) Hbl.out).trans Hc.out.2.2.2.2; have Hb2 := Lib.hid hb2; have Hown1 := Lib.hid (own_below Hown.out hb1); clear hb1 hb2)
              | (at_builtin; refine wpList_push rfl (.tmp 29) (.tmp 34) 25 rfl w.heap.size 28 i0 _ 5 48 Tryz.underlying25 hi0 hz0 hz1 hz2 rfl (by omega) (.slice A1 o.length c1) o.length (rcC o) rfl Hown1.out #[.int .i64 r.kind, .int .i64 r.idx, .int .i64 r.term, .int .i64 r.vote, .string (bs r.data)] rfl rfl (by intro u hu; simp at hu; rcases hu with rfl | rfl | rfl | rfl | rfl <;> rfl) (by omega) (by omega) w Hb2.out Hb2.out.size ?_; intro g4 cap4 w4 hown4 hb4; have Hown4 := Lib.hid hown4; have Hb4 := Lib.hid hb4; clear hown4 hb4))
            go_roundw
            case rel =>
              refine ⟨i + 1, by omega, by go_num, ?_, Hb4.out⟩
              rw [Hn.out, List.length_append, rcC_append]
              exact Hown4.out
            case measure => simp [intOf]; omega
          · rw [decide_eq_false h3] at HR
            have Hn : Hid (fewL (l.take (i + 1)) = o) := Lib.hid (by rw [Hst.out, if_neg (by unfold fewP; rw [decide_eq_false h3]; simp)])
            clear h1 h2 h3
            go_wp2_with (go_at_call 8; refine HR.out.mono ?_; rintro e w1 ⟨rfl, hb1⟩; have Hb1 := Lib.hid hb1; clear hb1)
            go_roundw
            case rel => exact ⟨i + 1, by omega, by go_num, by rw [Hn.out]; exact own_below Hown.out Hb1.out, Hb.out.trans (Hb1.out.mono Hb.out.size)⟩
            case measure => simp [intOf]; omega
        · have h2z : ¬ ((r.data.length : Nat) : Int) ≤ 1000 := by omega
          have Hn : Hid (fewL (l.take (i + 1)) = o) := Lib.hid (by rw [Hst.out, if_neg (by unfold fewP; rw [decide_eq_false h2]; simp)])
          clear h1 h2
          go_wp2
          go_roundw
          case rel => exact ⟨i + 1, by omega, by go_num, by rw [Hn.out]; exact Hown.out, Hb.out⟩
          case measure => simp [intOf]; omega
      · have h1z : ¬ ((o.length : Nat) : Int) < 40 := by omega
        have Hn : Hid (fewL (l.take (i + 1)) = o) := Lib.hid (by rw [Hst.out, if_neg (by unfold fewP; rw [decide_eq_false h1]; simp)])
        clear h1
        go_wp2
        go_roundw
        case rel => exact ⟨i + 1, by omega, by go_num, by rw [Hn.out]; exact Hown.out, Hb.out⟩
        case measure => simp [intOf]; omega
    · have hltz : ¬ (i : Int) < (n : Int) := by omega
      have Hn : Hid (l.take i = l) := Lib.hid (List.take_of_length_le (by rw [Hlen.out]; omega))
      go_wp2
      go_ret
      refine ⟨_, rfl, ?_, Hb.out⟩
      have := Hown.out
      rw [Hn.out] at this
      rw [Hn.out]
      exact this
end Go.Proofs.YtdneobnnmmlebaaGreatDoor

/-
  What the laws ask of the program's own log, as one structure; a log over its disk; WalNone's structure.
-/
namespace Go.Proofs.YtdneobnnmmlebaaGreatDoor
open Go.RowKit

structure OpenOk (s s' : St) (L : Lg) (m : List Rc) : Prop where
  tells : Tells s.files L.first L.last L.size m
  opened : Opened s.files L.first L.last L.size s'.files
  room : s'.room = s.room
  fuse : s'.fuse = s.fuse
  off : s'.off = false
  used : usedL s'.files ≤ usedL s.files
  len : s'.files.length ≤ s.files.length
def OpenRet (G : GoodD) (X : World → Addr → (Nat → Prop) → Addr → Lg → Prop) (a : Addr) (F : Nat → Prop) (s : St) (w : World) (e : Ending) (w' : World) : Prop :=
  ∃ x FX A n cap F' s' L m, e = .returned (.tuple #[.pointer (some x), .slice A n cap, .int .i64 0]) ∧ G.D w' a F' s' ∧ X w' x FX a L ∧ OpenOk s s' L m ∧ m.length = n ∧ n ≤ 9223372036854775807 ∧ RowAt w' A (rcC m) ∧ Only F w w' ∧
    (∀ k, F' k → F k ∨ w.heap.size ≤ k) ∧ (∀ k, FX k → w.heap.size ≤ k ∧ ¬ F' k) ∧ ∀ g off, A = some (⟨g, off, none⟩ : Addr) → 0 < n → w.heap.size ≤ g ∧ ¬ F' g ∧ ¬ FX g
def WRet (G : GoodD) (X : World → Addr → (Nat → Prop) → Addr → Lg → Prop) (a x : Addr) (F FX : Nat → Prop) (res : Int × St) (L' : Lg) (w : World) (e : Ending) (w' : World) : Prop :=
  e = .returned (.int .i64 res.1) ∧ ∃ F' FX', G.D w' a F' res.2 ∧ Only (fun k => F k ∨ FX k) w w' ∧ (∀ k, F' k → F k ∨ w.heap.size ≤ k) ∧ (∀ k, FX' k → FX k ∨ w.heap.size ≤ k) ∧ (∀ k, F' k → ¬ FX' k) ∧ (res.1 = 0 → X w' x FX' a L')
/-- The library's table of powers of ten, as its text lays it. -/
def Tab (w : World) : Prop := Lib.TabIs Tryz.prog w "internal/strconv.uint64pow10" .u64 Lib.pow10Tab
/-- .. whatever is done from block B on. -/
def TabB (B : Nat) (w : World) : Prop := Lib.TabBelow Tryz.prog B w "internal/strconv.uint64pow10" .u64 Lib.pow10Tab
theorem TabB.here {B : Nat} {w : World} (h : TabB B w) : Tab w := Lib.TabBelow.here h
theorem TabB.on {B : Nat} {w w' : World} (h : TabB B w) (hb : Below B w w') : TabB B w' := Lib.TabBelow.on h hb
theorem TabB.of {w : World} (h : Tab w) : TabB w.heap.size w := Lib.tabBelow_of_tabIs h
theorem TabB.at {w w' : World} (h : Tab w) (hb : Below w.heap.size w w') : Tab w' := ((TabB.of h).on hb).here
/-- .. whatever is done with the blocks F, and with new ones. -/
def TabF (F : Nat → Prop) (w : World) : Prop := ∃ B, B ≤ w.heap.size ∧ TabB B w ∧ ∀ k, F k → B ≤ k
theorem below_mono' {B C : Nat} {w w' : World} (h : Below C w w') (hB : B ≤ C) : Below B w w' := ⟨h.os, h.tape, h.output, h.size, fun k hk => h.block k (by omega)⟩
theorem TabF.here {F : Nat → Prop} {w : World} (h : TabF F w) : Tab w := by obtain ⟨B, _, h2, _⟩ := h; exact h2.here
theorem TabF.only {F F' : Nat → Prop} {w w' : World} (h : TabF F w) (ho : Only F w w') (hg : ∀ k, F' k → F k ∨ w.heap.size ≤ k) : TabF F' w' := by
  obtain ⟨B, h1, h2, h3⟩ := h
  exact ⟨B, Nat.le_trans h1 ho.size, h2.on (ho.below h1 h3), fun k hk => (hg k hk).elim (h3 k) (fun h => Nat.le_trans h1 h)⟩
theorem TabF.below {F : Nat → Prop} {w w' : World} (h : TabF F w) (hb : Below w.heap.size w w') : TabF F w' := by
  obtain ⟨B, h1, h2, h3⟩ := h
  exact ⟨B, Nat.le_trans h1 hb.size, h2.on (below_mono' hb h1), h3⟩
theorem TabF.less {F F' : Nat → Prop} {w : World} (h : TabF F w) (hg : ∀ k, F' k → F k) : TabF F' w := by
  obtain ⟨B, h1, h2, h3⟩ := h
  exact ⟨B, h1, h2, fun k hk => h3 k (hg k hk)⟩
/-- The program's disk alone, in memory from B on; and the table. -/
structure Lon (G : GoodD) (B : Nat) (w : World) (a : Addr) (F : Nat → Prop) (s : St) : Prop where
  d : G.D w a F s
  base : ∀ k, F k → B ≤ k
  tab : TabB B w
theorem Lon.below {G : GoodD} {B : Nat} {w w' : World} {a : Addr} {F : Nat → Prop} {s : St} (h : Lon G B w a F s) (hB : B ≤ w.heap.size) (hb : Below w.heap.size w w') : Lon G B w' a F s :=
  ⟨G.below h.d hb, h.base, h.tab.on (below_mono' hb hB)⟩
theorem Lon.step {G : GoodD} {B : Nat} {w w' : World} {a : Addr} {F F' : Nat → Prop} {s s' : St} (h : Lon G B w a F s) (hB : B ≤ w.heap.size) (hd : G.D w' a F' s') (ho : Only F w w') (hg : ∀ k, F' k → F k ∨ w.heap.size ≤ k) :
    Lon G B w' a F' s' ∧ Below B w w' ∧ B ≤ w'.heap.size :=
  ⟨⟨hd, fun k hk => (hg k hk).elim (h.base k) (fun h1 => Nat.le_trans hB h1), h.tab.on (ho.below hB h.base)⟩, ho.below hB h.base, Nat.le_trans hB ho.size⟩
/-- The program's own log answers what the document says: X w x FX a L: behind x, in blocks FX, lies an open log L over the disk behind a. -/
structure GoodW (G : GoodD) where
  X : World → Addr → (Nat → Prop) → Addr → Lg → Prop
  foot : ∀ {w x FX a L}, X w x FX a L → ∀ k, FX k → k < w.heap.size
  stay : ∀ {w w' : World} {x FX a L}, X w x FX a L → w.heap.size ≤ w'.heap.size → (∀ k, FX k → w'.heap[k]? = w.heap[k]?) → X w' x FX a L
  opens : ∀ (a : Addr) (F : Nat → Prop) (s : St) (w : World), G.D w a F s → Fit s → s.off = false → s.fuse = -1 → TabF F w → Calls Tryz.prog 10 #[.pointer (some a)] w (OpenRet G X a F s w)
  start : ∀ (l : List Rc) (A : Option Addr) (n cap : Nat) (x a : Addr) (F FX : Nat → Prop) (L : Lg) (s : St) (w : World), G.D w a F s → X w x FX a L → (∀ k, F k → ¬ FX k) → Fit s → s.files.length ≤ 999999 → s.off = false → (∀ r ∈ l, rightR r) → l.length = n → RowAt w A (rcC l) →
    (∀ g off, A = some (⟨g, off, none⟩ : Addr) → 0 < n → ¬ F g ∧ ¬ FX g) → (framesL l).length ≤ 500000 → L.last < mostS → TabF (fun k => F k ∨ FX k) w → Calls Tryz.prog 11 #[.pointer (some x), .slice A n cap] w (WRet G X a x F FX (startW l L s) (startL l L) w)
  append : ∀ (l : List Rc) (A : Option Addr) (n cap : Nat) (x a : Addr) (F FX : Nat → Prop) (L : Lg) (s : St) (w : World), G.D w a F s → X w x FX a L → (∀ k, F k → ¬ FX k) → Fit s → s.off = false → (∀ r ∈ l, rightR r) → l.length = n → 0 < n → RowAt w A (rcC l) →
    (∀ g off, A = some (⟨g, off, none⟩ : Addr) → 0 < n → ¬ F g ∧ ¬ FX g) → (framesL l).length ≤ 500000 → 1 ≤ L.last → L.last < mostS → TabF (fun k => F k ∨ FX k) w → Calls Tryz.prog 13 #[.pointer (some x), .slice A n cap] w (WRet G X a x F FX (appendW l L s) (appendL l L) w)
  append0 : ∀ (A : Option Addr) (cap : Nat) (x a : Addr) (FX : Nat → Prop) (L : Lg) (w : World), X w x FX a L → 1 ≤ L.last → Calls Tryz.prog 13 #[.pointer (some x), .slice A 0 cap] w fun e w' => e = .returned (.int .i64 0) ∧ Below w.heap.size w w'
  sync : ∀ (x a : Addr) (F FX : Nat → Prop) (L : Lg) (s : St) (w : World), G.D w a F s → X w x FX a L → (∀ k, F k → ¬ FX k) → Fit s → s.off = false → 1 ≤ L.last → L.last ≤ mostS → TabF (fun k => F k ∨ FX k) w → Calls Tryz.prog 14 #[.pointer (some x)] w (WRet G X a x F FX (syncS (fileL L.last) s) L w)
  segs : ∀ (x a : Addr) (FX : Nat → Prop) (L : Lg) (w : World), X w x FX a L → 1 ≤ L.first → L.first ≤ L.last → L.last ≤ mostS → Calls Tryz.prog 23 #[.pointer (some x)] w fun e w' => e = .returned (.int .i64 ((L.last : Int) - L.first + 1)) ∧ ∃ q, w' = w.drewN q
/-- A log that isn't there, or over no disk. -/
structure NoneW : Prop where
  opens : ∀ (w : World), Calls Tryz.prog 10 #[.pointer none] w fun e w' => (∃ A cap, e = .returned (.tuple #[.pointer none, .slice A 0 cap, .int .i64 7])) ∧ Below w.heap.size w w'
  start : ∀ (A : Option Addr) (n cap : Nat) (w : World), Calls Tryz.prog 11 #[.pointer none, .slice A n cap] w (NRet (.int .i64 7) w)
  append : ∀ (A : Option Addr) (n cap : Nat) (w : World), Calls Tryz.prog 13 #[.pointer none, .slice A n cap] w (NRet (.int .i64 7) w)
  sync : ∀ (w : World), Calls Tryz.prog 14 #[.pointer none] w (NRet (.int .i64 7) w)
  segs : ∀ (w : World), Calls Tryz.prog 23 #[.pointer none] w (NRet (.int .i64 0) w)

theorem GoodD.below' (G : GoodD) {w w' : World} {a : Addr} {F : Nat → Prop} {s : St} (h : G.D w a F s) (hb : Below w.heap.size w w') : G.D w' a F s :=
  G.stay h hb.size fun k hk => hb.block k (G.foot h k hk)
structure LogAt (G : GoodD) (V : GoodW G) (B : Nat) (w : World) (a : Addr) (F : Nat → Prop) (s : St) (x : Addr) (FX : Nat → Prop) (L : Lg) : Prop where
  d : G.D w a F s
  x : V.X w x FX a L
  apart : ∀ k, F k → ¬ FX k
  base : ∀ k, F k → B ≤ k
  basex : ∀ k, FX k → B ≤ k
  tab : TabB B w
section
variable {G : GoodD} {V : GoodW G} {B : Nat} {w w' : World} {a x : Addr} {F FX : Nat → Prop} {s : St} {L : Lg}
theorem LogAt.lone (h : LogAt G V B w a F s x FX L) : Lon G B w a F s := ⟨h.d, h.base, h.tab⟩
theorem LogAt.below (h : LogAt G V B w a F s x FX L) (hB : B ≤ w.heap.size) (hb : Below w.heap.size w w') : LogAt G V B w' a F s x FX L :=
  ⟨G.stay h.d hb.size fun k hk => hb.block k (G.foot h.d k hk), V.stay h.x hb.size fun k hk => hb.block k (V.foot h.x k hk), h.apart, h.base, h.basex, h.tab.on (below_mono' hb hB)⟩
/-- What a call of the log leaves. -/
def LRet (G : GoodD) (V : GoodW G) (B : Nat) (a x : Addr) (F FX : Nat → Prop) (res : Int × St) (L' : Lg) (w : World) (e : Ending) (w' : World) : Prop :=
  e = .returned (.int .i64 res.1) ∧ ∃ F' FX', Lon G B w' a F' res.2 ∧ (res.1 = 0 → LogAt G V B w' a F' res.2 x FX' L') ∧ Only (fun k => F k ∨ FX k) w w' ∧ (∀ k, F' k → F k ∨ w.heap.size ≤ k) ∧ (∀ k, FX' k → FX k ∨ w.heap.size ≤ k) ∧ Below B w w' ∧ B ≤ w'.heap.size
theorem LogAt.ret {res : Int × St} {L' : Lg} {f : Nat} {args : Array Value} (h : LogAt G V B w a F s x FX L) (hB : B ≤ w.heap.size) (hc : Calls Tryz.prog f args w (WRet G V.X a x F FX res L' w)) : Calls Tryz.prog f args w (LRet G V B a x F FX res L' w) :=
  hc.mono fun _ w' ⟨he, F', FX', hd, ho, hF, hX, hap, hx⟩ => by
    have hb1 : ∀ k, F' k → B ≤ k := fun k hk => (hF k hk).elim (h.base k) (fun h1 => Nat.le_trans hB h1)
    have hb2 : ∀ k, FX' k → B ≤ k := fun k hk => (hX k hk).elim (h.basex k) (fun h1 => Nat.le_trans hB h1)
    have hbl : Below B w w' := ho.below hB (fun k hk => hk.elim (h.base k) (h.basex k))
    exact ⟨he, F', FX', ⟨hd, hb1, h.tab.on hbl⟩, fun h0 => ⟨hd, hx h0, hap, hb1, hb2, h.tab.on hbl⟩, ho, hF, hX, hbl, Nat.le_trans hB ho.size⟩
theorem LogAt.starts (h : LogAt G V B w a F s x FX L) (hB : B ≤ w.heap.size) (hf : Fit s) (hfl : s.files.length ≤ 999999) (ho : s.off = false) (l : List Rc) (A : Option Addr) (n cap : Nat) (hr : ∀ r ∈ l, rightR r) (hl : l.length = n) (hrow : RowAt w A (rcC l)) (hA : ∀ g off, A = some (⟨g, off, none⟩ : Addr) → 0 < n → ¬ F g ∧ ¬ FX g) (hu : (framesL l).length ≤ 500000) (hla : L.last < mostS) :
    Calls Tryz.prog 11 #[.pointer (some x), .slice A n cap] w (LRet G V B a x F FX (startW l L s) (startL l L) w) := h.ret hB (V.start l A n cap x a F FX L s w h.d h.x h.apart hf hfl ho hr hl hrow hA hu hla ⟨B, hB, h.tab, fun k hk => hk.elim (h.base k) (h.basex k)⟩)
theorem LogAt.appends (h : LogAt G V B w a F s x FX L) (hB : B ≤ w.heap.size) (hf : Fit s) (ho : s.off = false) (l : List Rc) (A : Option Addr) (n cap : Nat) (hr : ∀ r ∈ l, rightR r) (hl : l.length = n) (hn : 0 < n) (hrow : RowAt w A (rcC l)) (hA : ∀ g off, A = some (⟨g, off, none⟩ : Addr) → 0 < n → ¬ F g ∧ ¬ FX g) (hu : (framesL l).length ≤ 500000) (hl1 : 1 ≤ L.last) (hla : L.last < mostS) :
    Calls Tryz.prog 13 #[.pointer (some x), .slice A n cap] w (LRet G V B a x F FX (appendW l L s) (appendL l L) w) := h.ret hB (V.append l A n cap x a F FX L s w h.d h.x h.apart hf ho hr hl hn hrow hA hu hl1 hla ⟨B, hB, h.tab, fun k hk => hk.elim (h.base k) (h.basex k)⟩)
theorem LogAt.syncs (h : LogAt G V B w a F s x FX L) (hB : B ≤ w.heap.size) (hf : Fit s) (ho : s.off = false) (hl1 : 1 ≤ L.last) (hla : L.last ≤ mostS) :
    Calls Tryz.prog 14 #[.pointer (some x)] w (LRet G V B a x F FX (syncS (fileL L.last) s) L w) := h.ret hB (V.sync x a F FX L s w h.d h.x h.apart hf ho hl1 hla ⟨B, hB, h.tab, fun k hk => hk.elim (h.base k) (h.basex k)⟩)
/-- A block that is there, but not the log's. -/
theorem LogAt.new (h : LogAt G V B w a F s x FX L) {g : Nat} (hg : w.heap.size ≤ g) : ¬ F g ∧ ¬ FX g :=
  ⟨fun hk => by have := G.foot h.d g hk; omega, fun hk => by have := V.foot h.x g hk; omega⟩
/-- The disk alone turns. -/
theorem LogAt.disk {F' : Nat → Prop} {s' : St} (h : LogAt G V B w a F s x FX L) (hB : B ≤ w.heap.size) (hd : G.D w' a F' s') (ho : Only F w w') (hg : ∀ k, F' k → F k ∨ w.heap.size ≤ k) : LogAt G V B w' a F' s' x FX L :=
  ⟨hd, V.stay h.x ho.size fun k hk => ho.block k (V.foot h.x k hk) (fun hf => h.apart k hf hk), fun k hk hx => (hg k hk).elim (fun h1 => h.apart k h1 hx) (fun h1 => by have := V.foot h.x k hx; omega),
    fun k hk => (hg k hk).elim (h.base k) (fun h1 => Nat.le_trans hB h1), h.basex, h.tab.on (ho.below hB h.base)⟩
/-- A disk is opened. -/
def ORet (G : GoodD) (V : GoodW G) (B : Nat) (a : Addr) (F : Nat → Prop) (s : St) (w : World) (e : Ending) (w' : World) : Prop :=
  ∃ x FX A n cap F' s' L m, e = .returned (.tuple #[.pointer (some x), .slice A n cap, .int .i64 0]) ∧ LogAt G V B w' a F' s' x FX L ∧ OpenOk s s' L m ∧ m.length = n ∧ n ≤ 9223372036854775807 ∧ RowAt w' A (rcC m) ∧ Only F w w' ∧
    (∀ k, F' k → F k ∨ w.heap.size ≤ k) ∧ (∀ k, FX k → w.heap.size ≤ k) ∧ (∀ g off, A = some (⟨g, off, none⟩ : Addr) → 0 < n → w.heap.size ≤ g ∧ ¬ F' g ∧ ¬ FX g) ∧ Below B w w' ∧ B ≤ w'.heap.size
theorem Lon.opens (V : GoodW G) (h : Lon G B w a F s) (hB : B ≤ w.heap.size) (hf : Fit s) (ho : s.off = false) (hu : s.fuse = -1) : Calls Tryz.prog 10 #[.pointer (some a)] w (ORet G V B a F s w) :=
  (V.opens a F s w h.d hf ho hu ⟨B, hB, h.tab, h.base⟩).mono fun _ w' ⟨x, FX, A, n, cap, F', s', L, m, he, hd, hx, hok, hm, hn, hr, hon, hF, hX, hA⟩ => by
    refine ⟨x, FX, A, n, cap, F', s', L, m, he, ⟨hd, hx, fun k h1 h2 => (hX k h2).2 h1, fun k hk => (hF k hk).elim (h.base k) (fun h1 => Nat.le_trans hB h1), fun k hk => Nat.le_trans hB (hX k hk).1, h.tab.on (hon.below hB h.base)⟩, hok, hm, hn, hr, hon, hF, fun k hk => (hX k hk).1, hA, hon.below hB h.base, Nat.le_trans hB hon.size⟩
/-- A call of the disk alone. -/
theorem Lon.ret' {s' : St} {v : Value} {f : Nat} {args : Array Value} (h : Lon G B w a F s) (hB : B ≤ w.heap.size) (hc : Calls Tryz.prog f args w (DRet G.D v a F s' w)) : Calls Tryz.prog f args w fun e w' => e = .returned v ∧ ∃ F', Lon G B w' a F' s' ∧ Only F w w' ∧ (∀ k, F' k → F k ∨ w.heap.size ≤ k) ∧ Below B w w' ∧ B ≤ w'.heap.size :=
  hc.mono fun _ _ ⟨he, F', hd, ho, hg⟩ => ⟨he, F', (h.step hB hd ho hg).1, ho, hg, (h.step hB hd ho hg).2.1, (h.step hB hd ho hg).2.2⟩
end
end Go.Proofs.YtdneobnnmmlebaaGreatDoor
