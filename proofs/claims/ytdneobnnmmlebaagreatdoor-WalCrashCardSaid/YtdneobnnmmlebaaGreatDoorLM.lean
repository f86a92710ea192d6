/- Texts of one claim, joined: LJ LK LL LM. -/
import Derived.Test.YtdneobnnmmlebaaGreatDoorLI
import Derived.BigRegion
import Derived.StillTailTactics
/-
  Rows of segments; the contracts of wal.beforeLog and removeAll.
-/
namespace Go.Proofs.YtdneobnnmmlebaaGreatDoor
open Go.RowKit

theorem sgC_cons (g : Sg) (l : List Sg) : sgC (g :: l) = sgC1 g ++ sgC l := rfl
theorem sgC_append (l m : List Sg) : sgC (l ++ m) = sgC l ++ sgC m := by unfold sgC; rw [List.flatMap_append]
theorem sgC_length (l : List Sg) : (sgC l).length = l.length * 5 := by
  induction l with
  | nil => rfl
  | cons s l ih => simp only [sgC, List.flatMap_cons, List.length_append, List.length_cons, sgC1, List.length_nil] at *; omega
theorem sgC_at : ∀ (l : List Sg) (i : Nat) (r : Sg) (k : Nat), l[i]? = some r → k < 5 → (sgC l)[i * 5 + k]? = (sgC1 r)[k]?
  | [], i, r, k, h, _ => by simp at h
  | q :: l, 0, r, k, h, hk => by
    obtain rfl : q = r := by simpa using h
    rw [sgC_cons, Nat.zero_mul, Nat.zero_add, List.getElem?_append_left (by simp [sgC1]; omega)]
  | q :: l, i + 1, r, k, h, hk => by
    have := sgC_at l i r k (by simpa using h) hk
    rw [sgC_cons, show (i + 1) * 5 + k = (sgC1 q).length + (i * 5 + k) by simp [sgC1]; omega, List.getElem?_append_right (by omega), Nat.add_sub_cancel_left]
    exact this
theorem row_sg {w : World} {A : Option Addr} {l : List Sg} (h : RowAt w A (sgC l)) {i : Nat} {r : Sg} (hr : l[i]? = some r) : ∃ b off, A = some (⟨b, off, none⟩ : Addr) ∧ b < w.heap.size ∧
    w.cell? ⟨b, off + i * 5, none⟩ = some (.int .i64 (r.n : Nat)) ∧ w.cell? ⟨b, off + i * 5 + 1, none⟩ = some (.bool r.beg) ∧ w.cell? ⟨b, off + i * 5 + 2, none⟩ = some (.slice r.A r.recs.length r.cap) ∧ w.cell? ⟨b, off + i * 5 + 3, none⟩ = some (.int .i64 (r.good : Nat)) ∧ w.cell? ⟨b, off + i * 5 + 4, none⟩ = some (.int .i64 (r.c.length : Nat)) := by
  have g := fun k v (hk : k < 5) (hv : (sgC1 r)[k]? = some v) => h (i * 5 + k) v ((sgC_at l i r k hr hk).trans hv)
  obtain ⟨b, off, hA, hl, c0⟩ := g 0 _ (by omega) rfl
  refine ⟨b, off, hA, hl, by simpa using c0, ?_, ?_, ?_, ?_⟩
  · obtain ⟨b', off', hA', _, c⟩ := g 1 _ (by omega) rfl
    rw [hA] at hA'; injection hA' with e; injection e with e1 e2; subst e1 e2
    rw [Nat.add_assoc]; exact c
  · obtain ⟨b', off', hA', _, c⟩ := g 2 _ (by omega) rfl
    rw [hA] at hA'; injection hA' with e; injection e with e1 e2; subst e1 e2
    rw [Nat.add_assoc]; exact c
  · obtain ⟨b', off', hA', _, c⟩ := g 3 _ (by omega) rfl
    rw [hA] at hA'; injection hA' with e; injection e with e1 e2; subst e1 e2
    rw [Nat.add_assoc]; exact c
  · obtain ⟨b', off', hA', _, c⟩ := g 4 _ (by omega) rfl
    rw [hA] at hA'; injection hA' with e; injection e with e1 e2; subst e1 e2
    rw [Nat.add_assoc]; exact c

/-- How many segments stand ahead of the log. -/
def BefOf (l : List Sg) (r : Nat) : Prop :=
  (∃ g, l[r]? = some g ∧ g.beg = true ∧ ∀ j g', r < j → l[j]? = some g' → g'.beg = false) ∨ ((∀ g ∈ l, g.beg = false) ∧ r = l.length)
set_option maxRecDepth 100000 in
set_option maxHeartbeats 4000000 in
theorem beforeLog_any (l : List Sg) (A : Option Addr) (n cap : Nat) (w : World) (hlen : l.length = n) (hrow : RowAt w A (sgC l)) (hn : n ≤ 1000000000) :
    Calls Tryz.prog 27 #[.slice A n cap] w fun e w' => ∃ r, BefOf l r ∧ e = .returned (.int .i64 (r : Nat)) ∧ w' = w := by
  have Hrow := Lib.hid hrow
  have Hlen := Lib.hid hlen
  clear hrow hlen
  go_enter Tryz.func27, Tryz.ntmps27
  go_wp2
  go_loopw [3] (fun iv wr => ∃ z : Nat, z ≤ n ∧ iv = .int .i64 ((z : Int) - 1) ∧ (∀ j g', z ≤ j → l[j]? = some g' → g'.beg = false) ∧ wr = w) (fun iv _ => (intOf iv + 1).toNat)
  case atStart => exact ⟨n, Nat.le_refl _, rfl, fun j g' hj h => (by have := (List.getElem?_eq_some_iff.1 h).1; have := Hlen.out; omega), rfl⟩
  case round =>
    obtain ⟨z, hz, rfl, hal, rfl⟩ := hrel
    have Hal := Lib.hid hal
    clear hal
    by_cases h0 : z = 0
    · subst h0
      have hz0 : ¬ (0 : Int) ≤ (((0 : Nat) : Int) - 1) := by omega
      have Hr : Hid (BefOf l n) := Lib.hid (.inr ⟨fun g hg => by
        obtain ⟨j, hj⟩ := List.mem_iff_getElem?.1 hg
        exact Hal.out j g (Nat.zero_le _) hj, Hlen.out.symm⟩)
      go_wp2
      go_ret
      exact ⟨n, Hr.out, rfl, rfl⟩
    · obtain ⟨y, rfl⟩ : ∃ y, z = y + 1 := ⟨z - 1, by omega⟩
      have hy1 : ((y + 1 : Nat) : Int) - 1 = (y : Int) := by omega
      rw [hy1]
      clear hy1
      have hlt : y < n := by omega
      have hyz : (y : Int) < (n : Int) := by omega
      obtain ⟨r, hr⟩ : ∃ r, l[y]? = some r := ⟨_, List.getElem?_eq_getElem (by rw [Hlen.out]; exact hlt)⟩
      obtain ⟨b, off, rfl, hbl, c0, c1, c2, c3, c4⟩ := row_sg Hrow.out hr
      have Hr := Lib.hid hr
      clear c0 c2 c3 c4 hr
      cases hbg : r.beg with
      | true =>
        rw [hbg] at c1
        have Hb : Hid (BefOf l y) := Lib.hid (.inl ⟨r, Hr.out, hbg, fun j g' hj h => Hal.out j g' hj h⟩)
        clear hbg
        go_wp2
        go_ret
        exact ⟨y, Hb.out, rfl, rfl⟩
      | false =>
        rw [hbg] at c1
        have Hb : Hid (∀ j g', y ≤ j → l[j]? = some g' → g'.beg = false) := Lib.hid (fun j g' hj h => by
          rcases Nat.lt_or_ge y j with h1 | h1
          · exact Hal.out j g' h1 h
          · obtain rfl : j = y := by omega
            have e := h.symm.trans Hr.out
            injection e with e
            rw [e]; exact hbg)
        clear hbg
        go_wp2
        go_roundw
        case rel => exact ⟨y, by omega, by go_num, Hb.out, by first | trivial | rfl⟩
        case measure => simp [intOf]

/-! Segments removed. -/
def rmF (ns : List Nat) (l : List Fl) : List Fl := l.filter fun f => decide (∀ n ∈ ns, f.1 ≠ fileL n)
def rmS (ns : List Nat) (s : St) : St := { s with files := rmF ns s.files }
theorem rmF_nil (l : List Fl) : rmF [] l = l := by unfold rmF; simp
theorem rmF_snoc (ns : List Nat) (n : Nat) (l : List Fl) : rmF (ns ++ [n]) l = (rmF ns l).filter fun f => decide (f.1 ≠ fileL n) := by
  unfold rmF
  rw [List.filter_filter]
  congr 1
  funext f
  rw [Bool.eq_iff_iff]
  simp only [List.mem_append, List.mem_singleton, decide_eq_true_eq, Bool.and_eq_true]
  constructor
  · intro h; exact ⟨h n (.inr rfl), fun x hx => h x (.inl hx)⟩
  · rintro ⟨h1, h2⟩ x (hx | rfl)
    · exact h2 x hx
    · exact h1
theorem rise_filter {l : List Fl} (h : RiseF l) (p : Fl → Bool) : RiseF (l.filter p) := h.sublist List.filter_sublist
theorem usedL_filter (p : Fl → Bool) : ∀ l : List Fl, usedL (l.filter p) ≤ usedL l
  | [] => Nat.le_refl _
  | f :: l => by
    have := usedL_filter p l
    rw [List.filter_cons]
    split
    · simp only [usedL]; omega
    · simp only [usedL]; omega
theorem burn_none {s : St} (ho : s.off = false) (hf : s.fuse = -1) : burnS s = s := by
  obtain ⟨a, b, c, d⟩ := s
  simp only at ho hf
  subst ho hf
  rfl
theorem take_drop_filter {l : List Fl} (hr : RiseF l) {i : Nat} {f : Fl} (h : l[i]? = some f) : l.take i ++ l.drop (i + 1) = l.filter fun x => decide (x.1 ≠ f.1) := by
  induction l generalizing i with
  | nil => simp at h
  | cons g l ih =>
    cases i with
    | zero =>
      obtain rfl : g = f := by simpa using h
      rw [List.filter_cons, if_neg (by simp)]
      simp only [List.take_zero, List.nil_append, List.drop_succ_cons, List.drop_zero]
      exact (List.filter_eq_self.2 (fun x hx => by simpa using (rise_after hr x hx).2)).symm
    | succ i =>
      have hf : l[i]? = some f := by simpa using h
      have hne : g.1 ≠ f.1 := fun e => (rise_after hr f (List.mem_of_getElem? hf)).2 e.symm
      rw [List.filter_cons, if_pos (by simpa using hne), List.take_succ_cons, List.drop_succ_cons, List.cons_append, ih (rise_rest hr) hf]
theorem remove_ok {s : St} (hr : RiseF s.files) (ho : s.off = false) (hf : s.fuse = -1) {f : Fl} (h : f ∈ s.files) : removeS f.1 s = (0, { s with files := s.files.filter fun x => decide (x.1 ≠ f.1) }) := by
  obtain ⟨i, hi⟩ := List.mem_iff_getElem?.1 h
  unfold removeS onS
  rw [if_neg (by rw [ho]; simp), atN_rise hr hi]
  simp only
  rw [burn_none ho hf, if_neg (by rw [ho]; simp), take_drop_filter hr hi]
theorem fit_rm {s : St} (h : Fit s) (ns : List Nat) : Fit (rmS ns s) :=
  ⟨h.room0, h.room1, h.fuse0, h.fuse1, Nat.le_trans (usedL_filter _ _) h.used, Nat.le_trans (List.length_filter_le _ _) h.len⟩
/-- Apart from the blocks of a disk. -/
def ApartA (A : Option Addr) (n : Nat) (F : Nat → Prop) : Prop := ∀ g off, A = some (⟨g, off, none⟩ : Addr) → 0 < n → ¬ F g
theorem ApartA.step {A : Option Addr} {n : Nat} {F F' : Nat → Prop} {w : World} {cs : List Value} (h : ApartA A n F) (hrow : RowAt w A cs) (hn : 0 < n → 0 < cs.length) (hg : ∀ k, F' k → F k ∨ w.heap.size ≤ k) : ApartA A n F' := fun g off e h0 hF => by
  rcases hg g hF with h1 | h1
  · exact h g off e h0 h1
  · obtain ⟨v, hv⟩ : ∃ v, cs[0]? = some v := ⟨_, List.getElem?_eq_getElem (hn h0)⟩
    obtain ⟨b, off', e', hl, _⟩ := hrow 0 v hv
    rw [e] at e'
    injection e' with e'
    injection e' with e1 _
    omega

set_option maxRecDepth 100000 in
set_option maxHeartbeats 4000000 in
theorem removeAll_any (G : GoodD) (l : List Sg) (A : Option Addr) (n cap : Nat) (a : Addr) (F : Nat → Prop) (s : St) (w : World) (hd : G.D w a F s) (hfit : Fit s) (hoff : s.off = false) (hfu : s.fuse = -1) (ht : TabF F w) (hlen : l.length = n) (hn : n ≤ 1000000000)
    (hrow : RowAt w A (sgC l)) (hA : ApartA A n F) (hp : l.Pairwise fun x y => x.n ≠ y.n) (hex : ∀ x ∈ l, x.n ≤ mostS ∧ ∃ f ∈ s.files, f.1 = fileL x.n) :
    Calls Tryz.prog 28 #[.pointer (some a), .slice A n cap] w (DRet G.D (.int .i64 0) a F (rmS (l.map (·.n)) s) w) := by
  have Hrow := Lib.hid hrow
  have Hlen := Lib.hid hlen
  have HA := Lib.hid hA
  have Hp := Lib.hid hp
  have Hex := Lib.hid hex
  have Ht := Lib.hid ht
  have Hfit := Lib.hid hfit
  have Hst := Lib.hid (And.intro hoff hfu)
  have Hd : Hid (G.D w a F (rmS ((l.take 0).map (·.n)) s)) := Lib.hid (by unfold rmS; rw [List.take_zero, List.map_nil, rmF_nil]; exact hd)
  have Hrise := Lib.hid (G.rise hd)
  clear hrow hlen hA hp hex ht hfit hoff hfu hd
  go_enter Tryz.func28, Tryz.ntmps28
  go_wp2
  go_loopw [10] (fun iv wr => ∃ (i : Nat) (F' : Nat → Prop), i ≤ n ∧ iv = .int .i64 i ∧ G.D wr a F' (rmS ((l.take i).map (·.n)) s) ∧ Only F w wr ∧ ∀ k, F' k → F k ∨ w.heap.size ≤ k) (fun iv _ => n - (intOf iv).toNat)
  case atStart => exact ⟨0, F, Nat.zero_le _, rfl, Hd.out, Only.refl _ _, fun k hk => .inl hk⟩
  case round =>
    clear Hd
    obtain ⟨i, F', hi, rfl, hd, ho, hg⟩ := hrel
    have Hd := Lib.hid hd
    have Ho := Lib.hid ho
    have Hg := Lib.hid hg
    clear hd ho hg
    by_cases hlt : i < n
    · have hltz : (i : Int) < (n : Int) := by omega
      obtain ⟨r, hr⟩ : ∃ r, l[i]? = some r := ⟨_, List.getElem?_eq_getElem (by rw [Hlen.out]; exact hlt)⟩
      have hrow' : RowAt wr A (sgC l) := row_only Hrow.out Ho.out (fun g off e h0 => HA.out g off e (by omega))
      obtain ⟨b, off, rfl, hbl, c0, c1, c2, c3, c4⟩ := row_sg hrow' hr
      have hmem := List.mem_of_getElem? hr
      obtain ⟨hrn, f, hf, hfn⟩ := Hex.out r hmem
      have htk : l.take (i + 1) = l.take i ++ [r] := by rw [List.take_add_one, hr]; rfl
      have hother : ∀ x ∈ l.take i, x.n ≠ r.n := fun x hx => by
        obtain ⟨j, hj⟩ := List.mem_iff_getElem?.1 hx
        rw [List.getElem?_take] at hj
        split at hj
        · rename_i hji
          obtain ⟨h1, e1⟩ := List.getElem?_eq_some_iff.1 hj
          obtain ⟨h2, e2⟩ := List.getElem?_eq_some_iff.1 hr
          have := List.pairwise_iff_getElem.1 Hp.out j i h1 h2 hji
          rw [e1, e2] at this
          exact this
        · cases hj
      have hfm : f ∈ rmF ((l.take i).map (·.n)) s.files := by
        unfold rmF
        rw [List.mem_filter]
        refine ⟨hf, decide_eq_true (fun m hm e => ?_)⟩
        obtain ⟨x, hx, rfl⟩ := List.mem_map.1 hm
        rw [hfn] at e
        exact hother x hx (file_inj hrn (Hex.out x (List.mem_of_mem_take hx)).1 e).symm
      have hrem := remove_ok (s := rmS ((l.take i).map (·.n)) s) (rise_filter Hrise.out _) Hst.out.1 Hst.out.2 hfm
      have hst2 : (removeS (fileL r.n) (rmS ((l.take i).map (·.n)) s)) = (0, rmS ((l.take (i + 1)).map (·.n)) s) := by
        rw [← hfn, hrem, htk, List.map_append, List.map_cons, List.map_nil, hfn]
        unfold rmS
        simp only
        rw [rmF_snoc]
      have HF := Lib.hid (fun (W : World) (hb : Below wr.heap.size wr W) => fileOf_any r.n W hrn ((Ht.out.only Ho.out Hg.out).below hb).here)
      have HR := Lib.hid (fun (W : World) (hb : Below wr.heap.size wr W) => G.remove (fileL r.n) a F' (rmS ((l.take i).map (·.n)) s) W (by rw [fileL_len]; decide) (G.below Hd.out hb) (fit_rm Hfit.out _))
      rw [hst2] at HR
      simp only at HR
      clear hr hrow' hmem hrn hf hfn htk hother hfm hrem hst2
      go_wp2_with fail
      refine (HF.out _ ((Below.refl _ _).alloc (Nat.le_refl _) _)).mono ?_
      rintro e w2 ⟨rfl, hb2⟩
      have B2 : Hid (Below wr.heap.size wr w2) := Lib.hid (((Below.refl wr.heap.size wr).alloc (Nat.le_refl _) _).trans (below_mono' hb2 (by simp)))
      clear hb2 c0 c1 c2 c3 c4
      go_wp2_with fail
      refine (HR.out _ B2.out).mono ?_
      rintro e w3 ⟨rfl, F3, hd3, ho3, hg3⟩
      have Hd3 := Lib.hid hd3
      have Ho3 : Hid (Only F w w3) := Lib.hid ((Ho.out.below_new B2.out).then ho3 Hg.out)
      have Hg3 : Hid (∀ k, F3 k → F k ∨ w.heap.size ≤ k) := Lib.hid (fun k hk => by
        rcases hg3 k hk with h1 | h1
        · exact Hg.out k h1
        · exact .inr (Nat.le_trans (Nat.le_trans Ho.out.size B2.out.size) h1))
      clear hd3 ho3 hg3 HR HF
      go_wp2
      go_roundw
      case rel => exact ⟨i + 1, F3, by omega, by go_num, Hd3.out, Ho3.out, Hg3.out⟩
      case measure => simp [intOf]; omega
    · have hltz : ¬ (i : Int) < (n : Int) := by omega
      have Hall : Hid (l.take i = l) := Lib.hid (List.take_of_length_le (by rw [Hlen.out]; omega))
      rw [Hall.out] at Hd
      go_wp2
      go_ret
      exact ⟨rfl, F', Hd.out, Ho.out, Hg.out⟩
end Go.Proofs.YtdneobnnmmlebaaGreatDoor

/-
  The contract of wal.segments.
-/
namespace Go.Proofs.YtdneobnnmmlebaaGreatDoor
open Go.RowKit

/-- One element more behind a row of the call's own, and what else stays. -/
theorem wpList_push_keep {P : Program} {ops : Array Oper} {rest : List Oper} {o : Oper} {a : Act} {Q : Exit → Act → World → Prop} {W : World} (hgd : o.guard = none) (s x : Operand) (t : TypeId)
    (ho : o.op = .call { callee := .builtin .append, args := #[s, x], argTypes := #[t, t] })
    (base : Nat) (e : TypeId) (i : TypeInfo) (z : Value) (k bytes : Nat) (ht : P.underlying t = some (.slice e)) (hi : P.info? e = some i) (hz : i.zero = some z)
    (hsize : i.size = k) (hby : i.bytes = bytes) (hzs : z.cells.size = k) (hk : 0 < k)
    (v : Value) (n : Nat) (xs : List Value) (hs : a.eval s = v) (hown : W.ownsRow base e k v n xs) (news : Array Value) (hx : a.eval x = .slice (some ⟨W.heap.size, 0, none⟩) 1 1)
    (hl : news.size = k) (h1 : ∀ u ∈ news.toList, u.oneCell' = true) (hn : n ≤ 100000000) (hbytes : bytes ≤ 1000) (hbs : base ≤ W.heap.size)
    (h : ∀ g cap w2, w2.ownsRow base e k (.slice (some ⟨g, 0, none⟩) (n + 1) cap) (n + 1) (xs ++ news.toList) → Only (fun j => v.ownBlock = some j) W w2 → (v.ownBlock = some g ∨ W.heap.size ≤ g) → wpList P ops Q rest (a.put o.dst (.slice (some ⟨g, 0, none⟩) (n + 1) cap)) w2) :
    wpList P ops Q (o :: rest) a (W.alloc (.cells news e)) := by
  have hal : (W.alloc (.cells news e)).ownsRow base e k v n xs := own_below hown ((Below.refl _ _).alloc (Nat.le_refl _) _)
  refine wpList_append_lies _ hgd s x t ho base e i z k bytes ht hi hz hsize hby hzs hk v n xs hs hal ⟨W.heap.size, 0, none⟩ 1 1 news.toList hx (by simp [hl]) ?_ h1 (by omega) (by unfold maxLen; omega) ?_ (by simp; omega) _ rfl ?_
  · intro j u hu
    have hn : (W.alloc (.cells news e)).heap[W.heap.size]? = some (.cells news e (0, 0)) := by
      show (W.heap.push (Obj.cells news e))[W.heap.size]? = _
      simp
    rw [add_off, Lib.cell_of_heap hn]
    simpa using hu
  · have : (n + 1) * bytes ≤ 100000001 * 1000 := Nat.mul_le_mul (by omega) hbytes
    omega
  · intro g cap w2 hown2 hgrow hw _
    refine h g cap w2 hown2 ?_ ?_
    · have h1 : Only (fun j => v.ownBlock = some j) W (W.alloc (.cells news e)) := Only.of_below ((Below.refl W.heap.size W).alloc (Nat.le_refl _) _) (fun i hi => .inr hi)
      exact h1.then (only_row hgrow) (fun i hi => .inl hi)
    · rcases hw with hw | hw
      · exact .inl hw
      · exact .inr (by rw [hw]; simp)

theorem infoS : (Tryz.prog.info? 88).map (fun i => (i.zero, i.size, i.bytes)) = some (some (.agg #[.int .i64 0, .bool false, .slice none 0 0, .int .i64 0, .int .i64 0]), 5, 56) := by kernel_rfl
theorem mem_used {l : List Fl} {f : Fl} (h : f ∈ l) : sizeF f ≤ usedL l := by
  induction l with
  | nil => cases h
  | cons g l ih =>
    rcases List.mem_cons.1 h with rfl | h
    · simp only [usedL]; omega
    · have := ih h
      simp only [usedL]; omega
/-- A file that is a segment: its number and its bytes. -/
def segF (f : Fl) : Option (Nat × List UInt8) := if numN f.1 = 0 then none else some (numN f.1, contF f)
/-- The segments of files. -/
structure SegsOf (l : List Fl) (m : List Sg) : Prop where
  eq : m.map (fun g => (g.n, g.c)) = l.filterMap segF
  ok : ∀ g ∈ m, SgOk g
theorem SegsOf.len {l : List Fl} {m : List Sg} (h : SegsOf l m) : m.length ≤ l.length := by
  have := congrArg List.length h.eq
  rw [List.length_map] at this
  rw [this]
  exact List.length_filterMap_le _ _
/-- A segment's records lie apart. -/
structure SgAt (B : Nat) (w : World) (F : Nat → Prop) (vb : Option Nat) (g : Sg) : Prop where
  row : RowAt w g.A (rcC g.recs)
  far : ∀ b off, g.A = some (⟨b, off, none⟩ : Addr) → 0 < g.recs.length → B ≤ b ∧ b < w.heap.size ∧ ¬ F b ∧ vb ≠ some b
theorem SgAt.disk {B : Nat} {w w' : World} {F F' : Nat → Prop} {vb : Option Nat} {g : Sg} (h : SgAt B w F vb g) (ho : Only F w w') (hg : ∀ k, F' k → F k ∨ w.heap.size ≤ k) : SgAt B w' F' vb g :=
  ⟨row_only h.row ho (fun b off e h0 => (h.far b off e (by rw [rcC_length] at h0; omega)).2.2.1), fun b off e h0 => by
    obtain ⟨h1, h2, h3, h4⟩ := h.far b off e h0
    exact ⟨h1, Nat.lt_of_lt_of_le h2 ho.size, fun hf => (hg b hf).elim h3 (fun h => by omega), h4⟩⟩
theorem SgAt.below {B : Nat} {w w' : World} {F : Nat → Prop} {vb : Option Nat} {g : Sg} (h : SgAt B w F vb g) (hb : Below w.heap.size w w') : SgAt B w' F vb g :=
  ⟨rowR_below h.row hb, fun b off e h0 => by
    obtain ⟨h1, h2, h3, h4⟩ := h.far b off e h0
    exact ⟨h1, Nat.lt_of_lt_of_le h2 hb.size, h3, h4⟩⟩
theorem SgAt.push {B : Nat} {w w' : World} {F : Nat → Prop} {vb : Option Nat} {k : Nat} {g : Sg} (h : SgAt B w F vb g) (ho : Only (fun j => vb = some j) w w') (hk : vb = some k ∨ w.heap.size ≤ k) : SgAt B w' F (some k) g :=
  ⟨row_only h.row ho (fun b off e h0 => (h.far b off e (by rw [rcC_length] at h0; omega)).2.2.2), fun b off e h0 => by
    obtain ⟨h1, h2, h3, h4⟩ := h.far b off e h0
    refine ⟨h1, Nat.lt_of_lt_of_le h2 ho.size, h3, fun e => ?_⟩
    injection e with e
    subst e
    rcases hk with hk | hk
    · exact h4 hk
    · omega⟩
/-- What the loop of segments keeps. -/
structure SgM (G : GoodD) (w1 : World) (a : Addr) (F : Nat → Prop) (s : St) (l : List Sg) (v : Value) (wr : World) : Prop where
  ex : ∃ F', G.D wr a F' s ∧ (∀ k, F' k → F k ∨ w1.heap.size ≤ k) ∧ (∀ k, v.ownBlock = some k → ¬ F' k) ∧ ∀ g ∈ l, SgAt w1.heap.size wr F' v.ownBlock g
  own : wr.ownsRow w1.heap.size 88 5 v l.length (sgC l)
  only : Only F w1 wr
/-- What segments answers. -/
def SgsRet (G : GoodD) (a : Addr) (F : Nat → Prop) (s : St) (w : World) (e : Ending) (w' : World) : Prop :=
  ∃ l A n cap F', SegsOf s.files l ∧ e = .returned (.tuple #[.slice A n cap, .int .i64 0]) ∧ l.length = n ∧ n ≤ cap ∧ n ≤ 1000000 ∧ G.D w' a F' s ∧ (∀ k, F' k → F k ∨ w.heap.size ≤ k) ∧ Only F w w' ∧
    RowAt w' A (sgC l) ∧ (∀ g off, A = some (⟨g, off, none⟩ : Addr) → w.heap.size ≤ g ∧ g < w'.heap.size ∧ ¬ F' g) ∧ ∀ g ∈ l, SgAt w.heap.size w' F' none g

set_option maxRecDepth 100000 in
set_option maxHeartbeats 4000000 in
theorem segments_any (G : GoodD) (a : Addr) (F : Nat → Prop) (s : St) (w : World) (hd : G.D w a F s) (hfit : Fit s) (hoff : s.off = false) : Calls Tryz.prog 26 #[.pointer (some a)] w (SgsRet G a F s w) := by
  obtain ⟨i0, hi0, hz0, hz1, hz2⟩ := info_parts infoS
  have HN := Lib.hid (G.names a F s w hd hfit)
  rw [namesL_on hoff] at HN
  have Hd := Lib.hid hd
  have Hfit := Lib.hid hfit
  have Hoff := Lib.hid hoff
  have hlen6 : s.files.length ≤ 1000000 := hfit.len
  clear hd hfit hoff
  go_enter Tryz.func26, Tryz.ntmps26
  go_wp2_with fail
  refine HN.out.mono ?_
  rintro e w1 ⟨⟨A, n, cap, rfl, hlen, hrow, hA⟩, hb⟩
  rw [List.length_map] at hlen
  have Hlen := Lib.hid hlen
  have Hrow := Lib.hid hrow
  have HA := Lib.hid hA
  have Hb := Lib.hid hb
  have hn6 : n ≤ 1000000 := by omega
  have H0 : Hid (SgM G w1 a F s [] (.slice none 0 0) w1) := Lib.hid ⟨⟨F, G.below Hd.out hb, fun k hk => .inl hk, fun k hk => (by simp [Value.ownBlock] at hk), fun g hg => (by cases hg)⟩, World.ownsRow_nil _ _ _ _, Only.refl _ _⟩
  have Hrise := Lib.hid (G.rise Hd.out)
  have Hshort := Lib.hid (G.short Hd.out)
  clear hlen hrow hA hb HN
  go_wp2
  go_loopw [4, 13] (fun lv iv wr => ∃ (i : Nat) (l : List Sg), i ≤ n ∧ iv = .int .i64 i ∧ SegsOf (s.files.take i) l ∧ SgM G w1 a F s l lv wr) (fun _ iv _ => n - (intOf iv).toNat)
  case atStart => exact ⟨0, [], Nat.zero_le _, rfl, ⟨by simp, fun g hg => by cases hg⟩, H0.out⟩
  case round =>
    clear H0
    obtain ⟨i, l, hi, rfl, hsg, hm⟩ := hrel
    have Hsg := Lib.hid hsg
    have Hm := Lib.hid hm
    obtain ⟨A1, c1, hov, hrow1⟩ := own_row hm.own
    subst hov
    clear hsg hm hrow1
    by_cases hlt : i < n
    · have hltz : (i : Int) < (n : Int) := by omega
      obtain ⟨f, hf⟩ : ∃ f, s.files[i]? = some f := ⟨_, List.getElem?_eq_getElem (by rw [Hlen.out]; exact hlt)⟩
      obtain ⟨b, off, rfl, hbl, hc⟩ := row_str Hrow.out i f.1 (by rw [List.getElem?_map, hf]; rfl)
      have d0 : wr.cell? ⟨b, off + i, none⟩ = some (.string (bs f.1)) := (Hm.out.only.cell (p := ⟨b, off + i, none⟩) hbl (HA.out b off rfl)).trans hc
      have hmem := List.mem_of_getElem? hf
      have HI := Lib.hid (fun (W : World) => numberIn_any f.1 W (Hshort.out f hmem))
      have htk : s.files.take (i + 1) = s.files.take i ++ [f] := by rw [List.take_add_one, hf]; rfl
      have Htk := Lib.hid htk
      have Hf := Lib.hid hf
      have Hmem := Lib.hid hmem
      clear hc hbl hf hmem htk
      by_cases h0 : numN f.1 = 0
      · rw [h0] at HI
        have Hn : Hid (SegsOf (s.files.take (i + 1)) l) := Lib.hid ⟨by rw [Htk.out, List.filterMap_append, Hsg.out.eq]; simp [segF, h0], Hsg.out.ok⟩
        clear h0
        go_wp2_with (go_at_call 46; refine (HI.out _).mono ?_; rintro e w2 ⟨rfl, rfl⟩)
        go_roundw
        case rel => exact ⟨i + 1, l, by omega, by go_num, Hn.out, Hm.out⟩
        case measure => simp [intOf]; omega
      · obtain ⟨q, hq⟩ : ∃ q, q = numN f.1 := ⟨_, rfl⟩
        have hq0 : ((q : Int) == 0) = false := by rw [beq_eq_false_iff_ne]; omega
        rw [← hq] at HI h0
        have Hq := Lib.hid hq
        obtain ⟨F1, hd1, hk1, hv1, hs1⟩ := Hm.out.ex
        have HR := Lib.hid (G.read f.1 a F1 s wr (Hshort.out f Hmem.out) hd1 Hfit.out)
        rw [readS_at Hoff.out Hrise.out Hf.out] at HR
        have hcl : (contF f).length ≤ 1000000000 := by
          have h1 := mem_used Hmem.out
          have h2 := Hfit.out.used
          unfold sizeF at h1
          unfold contF
          rw [List.length_append]
          omega
        have HS := Lib.hid (fun (W : World) => scanned_any q (contF f) W hcl)
        have Hd1 := Lib.hid hd1
        have Hk1 := Lib.hid hk1
        have Hv1 := Lib.hid hv1
        have Hs1 := Lib.hid hs1
        have hlc : l.length ≤ 100000000 := by have := Hsg.out.len; rw [List.length_take] at this; omega
        have Hof := Lib.hid Hm.out.own
        have Hon := Lib.hid Hm.out.only
        clear hq hd1 hk1 hv1 hs1 hcl Hm
        go_wp2_with (go_at_call 46; refine (HI.out _).mono ?_; rintro e w2 ⟨rfl, rfl⟩)
        go_wp2_with fail
        refine HR.out.mono ?_
        rintro e w2 ⟨rfl, F2, hd2, ho2, hg2⟩
        have Hd2 := Lib.hid hd2
        have Ho2 : Hid (Only F w1 w2) := Lib.hid (Hon.out.then ho2 Hk1.out)
        have Hk2 : Hid (∀ k, F2 k → F k ∨ w1.heap.size ≤ k) := Lib.hid (fun k hk => (hg2 k hk).elim (Hk1.out k) (fun h => .inr (Nat.le_trans Hon.out.size h)))
        have Own2 := Lib.hid (own_only Hof.out ho2 (fun j hj e => Hv1.out j e hj))
        have Hv2 : Hid (∀ k, (Value.slice A1 l.length c1).ownBlock = some k → ¬ F2 k) := Lib.hid (fun k hk hF => (hg2 k hF).elim (Hv1.out k hk) (fun h => by have := (World.ownsRow.lt Hof.out k hk).2; omega))
        have Hs2 : Hid (∀ g ∈ l, SgAt w1.heap.size w2 F2 (Value.slice A1 l.length c1).ownBlock g) := Lib.hid (fun g hg => (Hs1.out g hg).disk ho2 hg2)
        clear hd2 ho2 hg2 Hd1 Hk1 Hv1 Hs1 Hof Hon HR HI
        go_wp2_with fail
        refine (HS.out _).mono ?_
        rintro e w3 ⟨g, hgn, hgc, hgo, rfl, hown3, hb3⟩
        have Own3 := Lib.hid (own_below Own2.out hb3)
        have Ho3 : Hid (Only F w1 w3) := Lib.hid (Ho2.out.below_new hb3)
        have Hd3 := Lib.hid (G.below Hd2.out hb3)
        have Hf2 : Hid (∀ k, F2 k → k < w2.heap.size) := Lib.hid (G.foot Hd2.out)
        have Hs3 : Hid (∀ x ∈ l ++ [g], SgAt w1.heap.size w3 F2 (Value.slice A1 l.length c1).ownBlock x) := Lib.hid (fun x hx => by
          rcases List.mem_append.1 hx with hx | hx
          · exact (Hs2.out x hx).below hb3
          · obtain rfl : x = g := by simpa using hx
            refine ⟨own_row' hown3, fun b' off' e h0 => ?_⟩
            have hb' := World.ownsRow.lt hown3 b' (by rw [e]; rfl)
            exact ⟨Nat.le_trans Ho2.out.size hb'.1, hb'.2, fun hF => by have := Hf2.out b' hF; omega, fun e' => by have := (World.ownsRow.lt Own2.out b' e').2; omega⟩)
        have Hn : Hid (SegsOf (s.files.take (i + 1)) (l ++ [g])) := Lib.hid ⟨by
          rw [Htk.out, List.filterMap_append, List.map_append, Hsg.out.eq, List.map_cons, List.map_nil, hgn, hgc]
          congr 1
          show _ = List.filterMap segF [f]
          have : segF f = some (q, contF f) := by unfold segF; rw [← Hq.out, if_neg h0]
          simp [this], fun x hx => by
          rcases List.mem_append.1 hx with hx | hx
          · exact Hsg.out.ok x hx
          · obtain rfl : x = g := by simpa using hx
            exact hgo⟩
        have Hf3 : Hid (w2.heap.size ≤ w3.heap.size) := Lib.hid hb3.size
        unfold sgV
        clear hgn hgc hgo hown3 hb3 h0 Hs2 Hd2 Ho2 HS Own2
        go_wp2_with (at_builtin; refine wpList_push_keep rfl (.tmp 30) (.tmp 34) 61 rfl w1.heap.size 88 i0 _ 5 56 Tryz.underlying61 hi0 hz0 hz1 hz2 rfl (by omega) (.slice A1 l.length c1) l.length (sgC l) rfl Own3.out #[.int .i64 (g.n : Nat), .bool g.beg, .slice g.A g.recs.length g.cap, .int .i64 (g.good : Nat), .int .i64 (g.c.length : Nat)] rfl rfl (by intro u hu; simp at hu; rcases hu with rfl | rfl | rfl | rfl | rfl <;> rfl) (by omega) (by omega) Ho3.out.size ?_; intro g4 cap4 w4 hown4 ho4 hg4; have O4 := Lib.hid hown4; have P4 := Lib.hid ho4; have K4 := Lib.hid hg4; clear hown4 ho4 hg4)
        have hlen4 : (l ++ [g]).length = l.length + 1 := by simp
        have HM4 : Hid (SgM G w1 a F s (l ++ [g]) (.slice (some ⟨g4, 0, none⟩) (l.length + 1) cap4) w4) := Lib.hid (by
          refine ⟨⟨F2, ?_, Hk2.out, ?_, ?_⟩, ?_, ?_⟩
          · exact G.stay Hd3.out P4.out.size (fun k hk => P4.out.block k (Nat.lt_of_lt_of_le (Hf2.out k hk) Hf3.out) (fun e => Hv2.out k e hk))
          · intro k hk hF
            have hk : g4 = k := by simpa [Value.ownBlock] using hk
            subst hk
            rcases K4.out with h | h
            · exact Hv2.out _ h hF
            · have := Hf2.out _ hF; have := Hf3.out; omega
          · intro x hx
            exact (Hs3.out x hx).push P4.out K4.out
          · rw [hlen4, sgC_append]; exact O4.out
          · exact Ho3.out.then P4.out (fun j hj => .inr (World.ownsRow.lt Own3.out j hj).1))
        go_roundw
        case rel => exact ⟨i + 1, l ++ [g], by omega, by go_num, Hn.out, HM4.out⟩
        case measure => simp [intOf]; omega
    · have hltz : ¬ (i : Int) < (n : Int) := by omega
      have Hall : Hid (s.files.take i = s.files) := Lib.hid (List.take_of_length_le (by rw [Hlen.out]; omega))
      rw [Hall.out] at Hsg
      have Hl6 : Hid (l.length ≤ 1000000) := Lib.hid (Nat.le_trans Hsg.out.len hlen6)
      go_wp2
      refine bodyPost_ret (v := .tuple #[.slice A1 l.length c1, .int .i64 0]) (by simp [results, Tryz.results26, go_sem]) rfl ?_
      obtain ⟨F1, hd1, hk1, hv1, hs1⟩ := Hm.out.ex
      refine ⟨l, A1, l.length, c1, F1, Hsg.out, rfl, rfl, ?_, Hl6.out, hd1, fun k hk => (hk1 k hk).imp id (fun h => Nat.le_trans Hb.out.size h), ?_, own_row' Hm.out.own, ?_, fun g hg => ?_⟩
      · rcases Hm.out.own.2 with ⟨h1, h2⟩ | ⟨g, cap, cur, h1, _, _, h2, _⟩
        · rw [h2]; exact Nat.zero_le _
        · injection h1 with _ _ h1; rw [h1]; exact h2
      · exact (Only.of_below Hb.out (fun i hi => .inr hi)).then Hm.out.only (fun i hi => .inl hi)
      · intro g off e
        have := World.ownsRow.lt Hm.out.own g (by rw [e]; rfl)
        exact ⟨Nat.le_trans Hb.out.size this.1, this.2, hv1 g (by rw [e]; rfl)⟩
      · refine ⟨(hs1 g hg).row, fun b off e h0 => ?_⟩
        obtain ⟨h1, h2, h3, _⟩ := (hs1 g hg).far b off e h0
        exact ⟨Nat.le_trans Hb.out.size h1, h2, h3, fun e => by cases e⟩
end Go.Proofs.YtdneobnnmmlebaaGreatDoor

/-
  What Open's parts come to, over the files (pure).
-/
namespace Go.Proofs.YtdneobnnmmlebaaGreatDoor

section
variable {l : List Fl} {L : List Sg}
theorem segs_mem (h : SegsOf l L) {g : Sg} (hg : g ∈ L) : ∃ f ∈ l, f.1 = fileL g.n ∧ contF f = g.c ∧ 1 ≤ g.n ∧ g.n ≤ mostS := by
  have h1 : (g.n, g.c) ∈ L.map (fun g => (g.n, g.c)) := List.mem_map.2 ⟨g, hg, rfl⟩
  rw [h.eq] at h1
  obtain ⟨f, hf, he⟩ := List.mem_filterMap.1 h1
  unfold segF at he
  split at he
  · cases he
  · rename_i h0
    injection he with he
    injection he with e1 e2
    obtain ⟨h2, h3⟩ := numN_seg h0
    rw [e1] at h2 h3 h0
    exact ⟨f, hf, h3, e2, by omega, h2⟩
theorem segs_has (h : SegsOf l L) {n : Nat} (h1 : 1 ≤ n) (h2 : n ≤ mostS) {b : List UInt8} (hs : Seg l n b) : ∃ g ∈ L, g.n = n ∧ g.c = b := by
  obtain ⟨f, hf, hn, hc⟩ := hs
  have e : segF f = some (n, b) := by
    unfold segF
    rw [hn, numN_file h2, if_neg (by omega), hc]
  have h3 : (n, b) ∈ L.map (fun g => (g.n, g.c)) := by rw [h.eq]; exact List.mem_filterMap.2 ⟨f, hf, e⟩
  obtain ⟨g, hg, he⟩ := List.mem_map.1 h3
  injection he with e1 e2
  exact ⟨g, hg, e1, e2⟩
theorem segs_rise (hr : RiseF l) (h : SegsOf l L) : L.Pairwise fun x y => x.n < y.n := by
  have h1 : (l.filterMap segF).Pairwise fun x y => x.1 < y.1 := by
    refine List.pairwise_filterMap.2 (hr.imp ?_)
    intro f g hfg x hx y hy
    unfold segF at hx hy
    split at hx
    · cases hx
    · split at hy
      · cases hy
      · rename_i a b
        injection hx with hx
        injection hy with hy
        subst hx hy
        obtain ⟨a1, a2⟩ := numN_seg a
        obtain ⟨b1, b2⟩ := numN_seg b
        rw [a2, b2] at hfg
        exact (file_lt a1 b1).1 hfg
  rw [← h.eq] at h1
  exact (List.pairwise_map.1 h1).imp id
theorem rise_idx (h : L.Pairwise fun x y => x.n < y.n) {i j : Nat} {x y : Sg} (hx : L[i]? = some x) (hy : L[j]? = some y) : (i < j ↔ x.n < y.n) ∧ (i = j ↔ x.n = y.n) := by
  have key : ∀ {i j : Nat} {x y : Sg}, L[i]? = some x → L[j]? = some y → i < j → x.n < y.n := fun {i j x y} hx hy hij => by
    obtain ⟨h1, e1⟩ := List.getElem?_eq_some_iff.1 hx
    obtain ⟨h2, e2⟩ := List.getElem?_eq_some_iff.1 hy
    have := List.pairwise_iff_getElem.1 h i j h1 h2 hij
    rw [e1, e2] at this
    exact this
  rcases Nat.lt_trichotomy i j with h1 | h1 | h1
  · have := key hx hy h1
    exact ⟨⟨fun _ => this, fun _ => h1⟩, ⟨fun h => by omega, fun h => by omega⟩⟩
  · subst h1
    rw [hx] at hy
    injection hy with hy
    subst hy
    exact ⟨⟨fun h => by omega, fun h => by omega⟩, ⟨fun _ => rfl, fun _ => rfl⟩⟩
  · have := key hy hx h1
    exact ⟨⟨fun h => by omega, fun h => by omega⟩, ⟨fun h => by omega, fun h => by omega⟩⟩
/-- So many of the segments are taken. -/
def TkOf (D : List Sg) (j : Nat) : Prop :=
  (D = [] ∧ j = 0) ∨ (1 ≤ j ∧ j ≤ D.length ∧ (∀ i x y, i + 1 < j → D[i]? = some x → D[i + 1]? = some y → ¬ x.good < x.c.length ∧ y.n = x.n + 1) ∧
    ∀ x, D[j - 1]? = some x → x.good < x.c.length ∨ ∀ y, D[j]? = some y → y.n ≠ x.n + 1)
def lastN (D : List Sg) (j : Nat) : Nat := match D[j - 1]? with | some x => if j = 0 then 0 else x.n | none => 0
def lastG (D : List Sg) (j : Nat) : Nat := match D[j - 1]? with | some x => if j = 0 then 0 else x.good | none => 0
theorem lastN_at {D : List Sg} {j : Nat} {x : Sg} (h : D[j - 1]? = some x) (hj : 1 ≤ j) : lastN D j = x.n ∧ lastG D j = x.good := by
  unfold lastN lastG; rw [h]; simp only; rw [if_neg (by omega), if_neg (by omega)]; exact ⟨rfl, rfl⟩
def cutM (j n k : Nat) (l : List Fl) : List Fl := l.map fun f => if 1 ≤ j ∧ f.1 = fileL n then cutF k f else f
def recsJ (D : List Sg) (j : Nat) : List Rc := (D.take j).flatMap (·.recs)
theorem good_le {g : Sg} (h : SgOk g) : g.good ≤ g.c.length := by
  rcases h with ⟨_, k, b, t, _, _, hc, hs, hg⟩ | ⟨_, _, t, hs, hg⟩
  · rw [hg, hc, List.length_append, hs.eq, List.length_append]; omega
  · rw [hg, hs.eq, List.length_append]; omega
/-- The body of a segment of the log. -/
theorem body_of (h : SegsOf l L) {F : Nat} {g : Sg} (hg : g ∈ L) (hb : (g.beg = true ∧ g.n = F) ∨ (g.beg = false ∧ g.n ≠ F)) : ∃ b off t, BodyOf l F g.n b off ∧ Scan b g.recs t ∧ g.good = off + (framesL g.recs).length ∧ (t = [] ↔ g.good = g.c.length) := by
  obtain ⟨f, hf, hn, hc, _, _⟩ := segs_mem h hg
  rcases h.ok g hg with ⟨hbeg, k, b, t, _, hk, hcc, hs, hgd⟩ | ⟨hbeg, _, t, hs, hgd⟩
  · rcases hb with ⟨_, hF⟩ | ⟨h1, _⟩
    · refine ⟨b, (headL k).length, t, .inl ⟨hF, k, hk, rfl, f, hf, hn, by rw [hc, hcc]⟩, hs, hgd, ?_⟩
      rw [hgd, hcc, List.length_append, hs.eq, List.length_append]
      constructor
      · rintro rfl; simp
      · intro e; exact List.eq_nil_of_length_eq_zero (by omega)
    · rw [hbeg] at h1; cases h1
  · rcases hb with ⟨h1, _⟩ | ⟨_, hF⟩
    · rw [hbeg] at h1; cases h1
    · refine ⟨g.c, 0, t, .inr ⟨hF, rfl, f, hf, hn, hc⟩, hs, by rw [hgd, Nat.zero_add], ?_⟩
      have e1 := congrArg List.length hs.eq
      rw [List.length_append] at e1
      rw [hgd]
      constructor
      · rintro rfl; simp at e1; omega
      · intro e; exact List.eq_nil_of_length_eq_zero (by omega)
theorem not_has (hr : RiseF l) (h : SegsOf l L) {p : Nat} {x : Sg} (hx : L[p]? = some x) (hne : ∀ y, L[p + 1]? = some y → y.n ≠ x.n + 1) : ¬ HasSeg l (x.n + 1) := by
  rintro ⟨hm, b, hs⟩
  obtain ⟨g, hg, hn, _⟩ := segs_has h (by omega) hm hs
  obtain ⟨q, hq⟩ := List.mem_iff_getElem?.1 hg
  have hw := segs_rise hr h
  have h1 := (rise_idx hw hx hq).1.2 (by omega)
  obtain ⟨y, hy⟩ : ∃ y, L[p + 1]? = some y := ⟨_, List.getElem?_eq_getElem (by have := (List.getElem?_eq_some_iff.1 hq).1; omega)⟩
  have h2 := (rise_idx hw hx hy).1.1 (by omega)
  have h3 : y.n ≤ g.n := by
    rcases Nat.lt_or_ge (p + 1) q with h | h
    · exact Nat.le_of_lt ((rise_idx hw hy hq).1.1 h)
    · exact Nat.le_of_eq ((rise_idx hw hy hq).2.1 (by omega))
  exact hne y hy (by omega)
/-- The chain of the segments that are taken. -/
theorem segs_chain (hr : RiseF l) (h : SegsOf l L) {r j : Nat} {g : Sg} (hg : L[r]? = some g) (hbg : g.beg = true) (hlt : ∀ i g', r < i → L[i]? = some g' → g'.beg = false)
    (hj1 : 1 ≤ j) (hjl : j ≤ (L.drop r).length) (hin : ∀ i x y, i + 1 < j → (L.drop r)[i]? = some x → (L.drop r)[i + 1]? = some y → ¬ x.good < x.c.length ∧ y.n = x.n + 1)
    (hend : ∀ x, (L.drop r)[j - 1]? = some x → x.good < x.c.length ∨ ∀ y, (L.drop r)[j]? = some y → y.n ≠ x.n + 1) :
    ∀ k i x, i + k + 1 = j → (L.drop r)[i]? = some x → Chain l g.n x.n ((((L.drop r).take j).drop i).flatMap (·.recs)) (lastN (L.drop r) j) (lastG (L.drop r) j) := by
  have hw := segs_rise hr h
  have hbody : ∀ (i : Nat) (x : Sg), (L.drop r)[i]? = some x → (x.beg = true ∧ x.n = g.n) ∨ (x.beg = false ∧ x.n ≠ g.n) := fun i x hx => by
    rw [List.getElem?_drop] at hx
    by_cases hi : i = 0
    · subst hi
      rw [Nat.add_zero, hg] at hx
      injection hx with hx
      subst hx
      exact .inl ⟨hbg, rfl⟩
    · refine .inr ⟨hlt _ x (by omega) hx, fun e => ?_⟩
      have := (rise_idx hw hg hx).2.2 e.symm
      omega
  intro k
  induction k with
  | zero =>
    intro i x hi hx
    obtain rfl : i = j - 1 := by omega
    have hxm : x ∈ L := List.mem_of_mem_drop (List.mem_of_getElem? hx)
    obtain ⟨b, off, t, hb, hs, hgd, ht⟩ := body_of h hxm (hbody _ x hx)
    obtain ⟨e1, e2⟩ := lastN_at hx hj1
    have hdr : (((L.drop r).take j).drop (j - 1)) = [x] := by
      apply List.ext_getElem?
      intro m
      rw [List.getElem?_drop, List.getElem?_take]
      cases m with
      | zero => rw [if_pos (by omega), Nat.add_zero, hx]; rfl
      | succ m => rw [if_neg (by omega)]; rfl
    rw [hdr, List.flatMap_cons, List.flatMap_nil, List.append_nil, e1, e2, hgd]
    rcases hend x hx with h1 | h1
    · exact .torn hb hs (fun e => by have := ht.1 e; omega)
    · by_cases ht0 : t = []
      · subst ht0
        rw [List.getElem?_drop] at hx
        refine .last hb hs (not_has hr h hx (fun y hy => h1 y ?_))
        rw [List.getElem?_drop, show r + j = r + (j - 1) + 1 by omega]
        exact hy
      · exact .torn hb hs ht0
  | succ k ih =>
    intro i x hi hx
    obtain ⟨y, hy⟩ : ∃ y, (L.drop r)[i + 1]? = some y := ⟨_, List.getElem?_eq_getElem (by omega)⟩
    obtain ⟨h1, h2⟩ := hin i x y (by omega) hx hy
    have hxm : x ∈ L := List.mem_of_mem_drop (List.mem_of_getElem? hx)
    have hym : y ∈ L := List.mem_of_mem_drop (List.mem_of_getElem? hy)
    obtain ⟨b, off, t, hb, hs, hgd, ht⟩ := body_of h hxm (hbody _ x hx)
    have hgl := good_le (h.ok x hxm)
    obtain rfl := ht.2 (by omega)
    have hdr : (((L.drop r).take j).drop i) = x :: (((L.drop r).take j).drop (i + 1)) := by
      have hlt : i < ((L.drop r).take j).length := by rw [List.length_take]; omega
      rw [List.drop_eq_getElem_cons hlt]
      congr 1
      have : ((L.drop r).take j)[i]? = some x := by rw [List.getElem?_take, if_pos (by omega), hx]
      rw [List.getElem?_eq_getElem hlt] at this
      injection this
    rw [hdr, List.flatMap_cons]
    obtain ⟨f, hf, hn, hc, _, hm⟩ := segs_mem h hym
    have hih := ih (i + 1) y (by omega) hy
    rw [h2] at hih hn hm
    exact .more hb hs ⟨hm, y.c, f, hf, hn, hc⟩ hih
/-- The files when the segments ahead of the log are removed, the last one is cut and those behind it are removed. -/
def openF (L : List Sg) (r j : Nat) (l : List Fl) : List Fl :=
  rmF (((L.drop r).drop j).map (·.n)) (cutM j (lastN (L.drop r) j) (lastG (L.drop r) j) (rmF ((L.take r).map (·.n)) l))
theorem cutM_rise {l : List Fl} (h : RiseF l) (j n k : Nat) : RiseF (cutM j n k l) := by
  refine rise_names (l := l) ?_ h
  unfold cutM
  rw [List.map_map]
  refine List.map_congr_left fun f _ => ?_
  show (if 1 ≤ j ∧ f.1 = fileL n then cutF k f else f).1 = f.1
  split <;> rfl
theorem mem_rmF {ns : List Nat} {f : Fl} : f ∈ rmF ns l ↔ f ∈ l ∧ ∀ n ∈ ns, f.1 ≠ fileL n := by
  unfold rmF
  rw [List.mem_filter, decide_eq_true_eq]
theorem mem_openF {r j : Nat} {f' : Fl} : f' ∈ openF L r j l ↔ ∃ f ∈ l, (∀ g ∈ L.take r, f.1 ≠ fileL g.n) ∧ (∀ g ∈ (L.drop r).drop j, f.1 ≠ fileL g.n) ∧ f' = if 1 ≤ j ∧ f.1 = fileL (lastN (L.drop r) j) then cutF (lastG (L.drop r) j) f else f := by
  unfold openF
  rw [mem_rmF]
  constructor
  · rintro ⟨h1, h2⟩
    obtain ⟨f, hf, rfl⟩ := List.mem_map.1 h1
    obtain ⟨h3, h4⟩ := mem_rmF.1 hf
    refine ⟨f, h3, fun g hg => h4 _ (List.mem_map.2 ⟨g, hg, rfl⟩), fun g hg => ?_, rfl⟩
    have := h2 _ (List.mem_map.2 ⟨g, hg, rfl⟩)
    split at this <;> exact this
  · rintro ⟨f, hf, h3, h4, rfl⟩
    refine ⟨List.mem_map.2 ⟨f, mem_rmF.2 ⟨hf, fun n hn => ?_⟩, rfl⟩, fun n hn => ?_⟩
    · obtain ⟨g, hg, rfl⟩ := List.mem_map.1 hn
      exact h3 g hg
    · obtain ⟨g, hg, rfl⟩ := List.mem_map.1 hn
      have := h4 g hg
      split <;> exact this
/-- What Open finds and leaves. -/
theorem open_tells (hr : RiseF l) (h : SegsOf l L) {r j : Nat} (hb : BefOf L r) (hj : TkOf (L.drop r) j) :
    ∃ F, Tells l F (lastN (L.drop r) j) (lastG (L.drop r) j) (recsJ (L.drop r) j) ∧ Opened l F (lastN (L.drop r) j) (lastG (L.drop r) j) (openF L r j l) ∧ (j = 0 → F = 0) ∧ (1 ≤ j → 1 ≤ F ∧ F + j = lastN (L.drop r) j + 1 ∧ lastN (L.drop r) j ≤ mostS) := by
  have hw := segs_rise hr h
  have hrise : RiseF (openF L r j l) := rise_filter (cutM_rise (rise_filter hr _) _ _ _) _
  rcases hb with ⟨g, hg, hbg, hlt⟩ | ⟨hno, rfl⟩
  · have hD0 : (L.drop r)[0]? = some g := by rw [List.getElem?_drop, Nat.add_zero, hg]
    rcases hj with ⟨h0, _⟩ | ⟨hj1, hjl, hin, hend⟩
    · rw [h0] at hD0; cases hD0
    · have hgm := List.mem_of_getElem? hg
      obtain ⟨f0, hf0, hn0, hc0, hp0, hm0⟩ := segs_mem h hgm
      obtain ⟨z, hz⟩ : ∃ z, (L.drop r)[j - 1]? = some z := ⟨_, List.getElem?_eq_getElem (by omega)⟩
      obtain ⟨ez1, ez2⟩ := lastN_at hz hj1
      have hzL : L[r + (j - 1)]? = some z := by rw [← List.getElem?_drop]; exact hz
      obtain ⟨fz, hfz, hnz, hcz, hpz, hmz⟩ := segs_mem h (List.mem_of_getElem? hzL)
      have hch := segs_chain hr h hg hbg hlt hj1 hjl hin hend (j - 1) 0 g (by omega) hD0
      rw [List.drop_zero] at hch
      have hnum : ∀ (i : Nat) (x : Sg), i < j → (L.drop r)[i]? = some x → x.n = g.n + i := by
        intro i
        induction i with
        | zero => intro x _ hx; rw [hD0] at hx; injection hx with hx; rw [hx]; rfl
        | succ i ih =>
          intro x hi hx
          obtain ⟨y, hy⟩ : ∃ y, (L.drop r)[i]? = some y := ⟨_, List.getElem?_eq_getElem (by omega)⟩
          have h1 := (hin i y x (by omega) hy hx).2
          rw [h1, ih y (by omega) hy]; omega
      have hzn := hnum (j - 1) z (by omega) hz
      have hpos : ∀ n, 1 ≤ n → n ≤ mostS → ∀ f ∈ l, f.1 = fileL n → ∃ (p : Nat) (x : Sg), L[p]? = some x ∧ x.n = n := fun n h1 h2 f hf hn => by
        obtain ⟨x, hx, e, _⟩ := segs_has h h1 h2 ⟨f, hf, hn, rfl⟩
        obtain ⟨p, hp⟩ := List.mem_iff_getElem?.1 hx
        exact ⟨p, x, hp, e⟩
      have hfile : ∀ (x y : Sg), x ∈ L → y ∈ L → fileL x.n = fileL y.n → x.n = y.n := fun x y hx hy e =>
        file_inj (segs_mem h hx).choose_spec.2.2.2.2 (segs_mem h hy).choose_spec.2.2.2.2 e
      refine ⟨g.n, .inl ⟨hp0, hm0, ?_, ?_, hch⟩, ⟨hrise, fun f' => ?_⟩, fun e => by omega, fun _ => ⟨hp0, by rw [ez1, hzn]; omega, by rw [ez1]; exact hmz⟩⟩
      · refine ⟨g.c, ⟨f0, hf0, hn0, hc0⟩, ?_⟩
        rcases h.ok g hgm with ⟨_, k, b, t, hk, hk2, hcc, hs, _⟩ | ⟨h1, _⟩
        · exact (beg_scan hk2 hcc hs).2 hk
        · rw [hbg] at h1; cases h1
      · intro n b hn hm hs
        obtain ⟨x, hx, hxn, hxc⟩ := segs_has h (by omega) hm hs
        obtain ⟨p, hp⟩ := List.mem_iff_getElem?.1 hx
        have hpr := (rise_idx hw hg hp).1.2 (by omega)
        have hxb := hlt p x hpr hp
        rcases h.ok x hx with ⟨h1, _⟩ | ⟨_, h1, _⟩
        · rw [hxb] at h1; cases h1
        · rw [← hxc]; exact h1
      · rw [mem_openF, ez1, ez2]
        constructor
        · rintro ⟨f, hf, h1, h2, rfl⟩
          by_cases hcut : f.1 = fileL z.n
          · rw [if_pos ⟨hj1, hcut⟩]
            exact .inr (.inr ⟨f, hf, hp0, hcut, rfl⟩)
          · rw [if_neg (fun e => hcut e.2)]
            by_cases hseg : IsSeg f.1
            · obtain ⟨n, a1, a2, a3⟩ := hseg
              obtain ⟨p, x, hp, hxn⟩ := hpos n a1 a2 f hf a3
              have hp1 : r ≤ p := by
                rcases Nat.lt_or_ge p r with h' | h'
                · exact absurd (by rw [a3, hxn]) (h1 x (List.mem_of_getElem? (i := p) (by rw [List.getElem?_take, if_pos h', hp])))
                · exact h'
              have hp2 : p < r + j := by
                rcases Nat.lt_or_ge p (r + j) with h' | h'
                · exact h'
                · exact absurd (by rw [a3, hxn]) (h2 x (List.mem_of_getElem? (i := p - r - j) (by rw [List.getElem?_drop, List.getElem?_drop, show r + (j + (p - r - j)) = p by omega, hp])))
              have hp3 : p ≠ r + (j - 1) := fun e => by
                subst e
                rw [hp] at hzL
                injection hzL with hzL
                rw [← hzL, hxn] at hcut
                exact hcut a3
              have e1 : g.n ≤ x.n := by
                rcases Nat.lt_or_ge r p with h' | h'
                · exact Nat.le_of_lt ((rise_idx hw hg hp).1.1 h')
                · exact Nat.le_of_eq ((rise_idx hw hg hp).2.1 (by omega))
              have e2 := (rise_idx hw hp hzL).1.1 (by omega)
              exact .inr (.inl ⟨n, by omega, by omega, hp0, a3, hf⟩)
            · exact .inl ⟨hf, hseg⟩
        · rintro (⟨hf, hns⟩ | ⟨n, a1, a2, _, a3, hf⟩ | ⟨f, hf, _, a3, rfl⟩)
          · have hno : ∀ x ∈ L, f'.1 ≠ fileL x.n := fun x hx e => hns ⟨x.n, (segs_mem h hx).choose_spec.2.2.2.1, (segs_mem h hx).choose_spec.2.2.2.2, e⟩
            refine ⟨f', hf, fun x hx => hno x (List.mem_of_mem_take hx), fun x hx => hno x (List.mem_of_mem_drop (List.mem_of_mem_drop hx)), ?_⟩
            rw [if_neg (fun e => hno z (List.mem_of_getElem? hzL) e.2)]
          · have hn2 : n ≤ mostS := by omega
            refine ⟨f', hf, fun x hx e => ?_, fun x hx e => ?_, ?_⟩
            · rw [a3] at e
              have hx' := List.mem_of_mem_take hx
              have e' := file_inj hn2 (segs_mem h hx').choose_spec.2.2.2.2 e
              obtain ⟨p, hp⟩ := List.mem_iff_getElem?.1 hx
              rw [List.getElem?_take] at hp
              split at hp
              · rename_i hpr
                have := (rise_idx hw hp hg).1.1 hpr
                omega
              · cases hp
            · rw [a3] at e
              have hx' := List.mem_of_mem_drop (List.mem_of_mem_drop hx)
              have e' := file_inj hn2 (segs_mem h hx').choose_spec.2.2.2.2 e
              obtain ⟨p, hp⟩ := List.mem_iff_getElem?.1 hx
              rw [List.getElem?_drop, List.getElem?_drop] at hp
              have := (rise_idx hw hzL hp).1.1 (by omega)
              omega
            · rw [if_neg (fun e => by have e := e.2; rw [a3] at e; have := file_inj hn2 hmz e; omega)]
          · refine ⟨f, hf, fun x hx e => ?_, fun x hx e => ?_, by rw [if_pos ⟨hj1, a3⟩]⟩
            · rw [a3] at e
              have hx' := List.mem_of_mem_take hx
              have e' := file_inj hmz (segs_mem h hx').choose_spec.2.2.2.2 e
              obtain ⟨p, hp⟩ := List.mem_iff_getElem?.1 hx
              rw [List.getElem?_take] at hp
              split at hp
              · have := (rise_idx hw hp hzL).1.1 (by omega)
                omega
              · cases hp
            · rw [a3] at e
              have hx' := List.mem_of_mem_drop (List.mem_of_mem_drop hx)
              have e' := file_inj hmz (segs_mem h hx').choose_spec.2.2.2.2 e
              obtain ⟨p, hp⟩ := List.mem_iff_getElem?.1 hx
              rw [List.getElem?_drop, List.getElem?_drop] at hp
              have := (rise_idx hw hzL hp).1.1 (by omega)
              omega
  · have hdr : L.drop L.length = [] := List.drop_length
    have hj0 : j = 0 := by
      rcases hj with ⟨_, h1⟩ | ⟨h1, h2, _⟩
      · exact h1
      · rw [hdr] at h2; simp at h2; omega
    subst hj0
    have hl0 : lastN (L.drop L.length) 0 = 0 ∧ lastG (L.drop L.length) 0 = 0 := by rw [hdr]; exact ⟨rfl, rfl⟩
    rw [hl0.1, hl0.2]
    refine ⟨0, .inr ⟨fun n b h1 h2 hs => ?_, rfl, rfl, rfl, by unfold recsJ; simp⟩, ⟨hrise, fun f' => ?_⟩, fun _ => rfl, fun h => by omega⟩
    · obtain ⟨x, hx, _, hxc⟩ := segs_has h h1 h2 hs
      rcases h.ok x hx with ⟨h1, _⟩ | ⟨_, h1, _⟩
      · rw [hno x hx] at h1; cases h1
      · rw [← hxc]; exact h1
    · rw [mem_openF, hl0.1, hl0.2]
      have hz : ∀ f ∈ l, (∀ g ∈ L, f.1 ≠ fileL g.n) ↔ ¬ IsSeg f.1 := fun f hf => by
        constructor
        · rintro h1 ⟨n, a1, a2, a3⟩
          obtain ⟨x, hx, e, _⟩ := segs_has h a1 a2 ⟨f, hf, a3, rfl⟩
          exact h1 x hx (by rw [a3, e])
        · intro h1 x hx e
          exact h1 ⟨x.n, (segs_mem h hx).choose_spec.2.2.2.1, (segs_mem h hx).choose_spec.2.2.2.2, e⟩
      constructor
      · rintro ⟨f, hf, h1, _, he⟩
        rw [List.take_length] at h1
        rw [if_neg (fun e => by have := e.1; omega)] at he
        subst he
        exact .inl ⟨hf, (hz _ hf).1 h1⟩
      · rintro (⟨hf, hns⟩ | ⟨_, _, _, h1, _⟩ | ⟨_, _, h1, _⟩)
        · refine ⟨f', hf, fun x hx => (hz f' hf).2 hns x (List.mem_of_mem_take hx), fun x hx => ?_, by rw [if_neg (fun e => by have := e.1; omega)]⟩
          rw [hdr] at hx; cases hx
        · omega
        · omega
end
end Go.Proofs.YtdneobnnmmlebaaGreatDoor

/-
  A log in memory; one row behind another; parts of rows of segments.
-/
namespace Go.Proofs.YtdneobnnmmlebaaGreatDoor
open Go.RowKit

/-- A row put behind a row of the call's own: what else stays. -/
theorem wpList_join {P : Program} {ops : Array Oper} {rest : List Oper} {o : Oper} {a : Act} {Q : Exit → Act → World → Prop} {w : World} (hgd : o.guard = none) (s x : Operand) (t : TypeId)
    (ho : o.op = .call { callee := .builtin .append, args := #[s, x], argTypes := #[t, t] })
    (base : Nat) (e : TypeId) (i : TypeInfo) (z : Value) (k bytes : Nat) (ht : P.underlying t = some (.slice e)) (hi : P.info? e = some i) (hz : i.zero = some z)
    (hsize : i.size = k) (hby : i.bytes = bytes) (hzs : z.cells.size = k) (hk : 0 < k)
    (A1 : Option Addr) (m c1 : Nat) (xs : List Value) (hs : a.eval s = .slice A1 m c1) (hown : w.ownsRow base e k (.slice A1 m c1) m xs) (A : Option Addr) (n c : Nat) (cs : List Value) (hx : a.eval x = .slice A n c) (hrow : RowAt w A cs) (hl : cs.length = n * k) (h1 : ∀ u ∈ cs, u.oneCell' = true)
    (hm : m + n ≤ 1000000000) (hbytes : bytes ≤ 1000) (hbs : base ≤ w.heap.size)
    (h : ∀ A' c' w', w'.ownsRow base e k (.slice A' (m + n) c') (m + n) (xs ++ cs) → Only (fun j => (Value.slice A1 m c1).ownBlock = some j) w w' → (∀ j, (Value.slice A' (m + n) c').ownBlock = some j → (Value.slice A1 m c1).ownBlock = some j ∨ w.heap.size ≤ j) → wpList P ops Q rest (a.put o.dst (.slice A' (m + n) c')) w') :
    wpList P ops Q (o :: rest) a w := by
  by_cases hn : n = 0
  · subst hn
    obtain rfl : cs = [] := List.eq_nil_of_length_eq_zero (by omega)
    refine wpList_plain hgd fun K hK => ?_
    have hr : (Builtin.append_ #[t, t] o.type #[.slice A1 m c1, .slice A 0 c]).run P w = .ok (.slice A1 m c1) w := by
      rcases hown.2 with ⟨hv, h0⟩ | ⟨g, cap, cur, hv, _, _, hc, _⟩
      · injection hv with e1 e2 e3
        subst e1 e2 e3
        cases A <;> simp [Builtin.append_, run_underlying ht, sizeOf, typeInfo, hi, Builtin.lenOf, Builtin.firstCells, loadCells, loadCellsFrom]
      · injection hv with e1 e2 e3
        subst e1 e3
        exact run_append_zero w t o.type e i ht hi g m c1 hc A c
    have := h A1 c1 w (by rw [Nat.add_zero, List.append_nil]; exact hown) (Only.refl _ w) (fun j hj => .inl hj)
    rw [Nat.add_zero] at this
    unfold Oper.wp execOp
    simp only [ho, resolve, invoke, builtin, Sem.run_bind, Sem.run_pure, Result.andThen_ok, List.map_toArray, List.map_cons, List.map_nil, hs, hx, hr]
    exact hK _ _ this
  · obtain ⟨v0, hv0⟩ : ∃ v, cs[0]? = some v := ⟨_, List.getElem?_eq_getElem (by rw [hl]; exact Nat.mul_pos (by omega) hk)⟩
    obtain ⟨b, off, rfl, _, _⟩ := hrow 0 v0 hv0
    refine wpList_append_lies _ hgd s x t ho base e i z k bytes ht hi hz hsize hby hzs hk (.slice A1 m c1) m xs hs hown ⟨b, off, none⟩ n c cs hx hl ?_ h1 (by omega) (by unfold maxLen; omega) ?_ hbs _ rfl ?_
    · intro j u hu
      obtain ⟨b', off', hA', _, hc⟩ := hrow j u hu
      injection hA' with hA'
      injection hA' with e1 e2
      subst e1 e2
      by_cases hj : j = 0
      · subst hj; simpa [Addr.add] using hc
      · simpa [Addr.add, hj] using hc
    · have : (m + n) * bytes ≤ 1000000000 * 1000 := Nat.mul_le_mul hm hbytes
      omega
    · intro g cap w2 hown2 hgrow hw _
      exact h _ _ w2 hown2 (only_row hgrow) (fun j hj => by
        have : g = j := by simpa [Value.ownBlock] using hj
        subst this
        rcases hw with hw | hw
        · exact .inl hw
        · exact .inr (Nat.le_of_eq hw.symm))
theorem sgC_drop (l : List Sg) (i : Nat) : sgC (l.drop i) = (sgC l).drop (i * 5) := by
  induction l generalizing i with
  | nil => simp [sgC]
  | cons r l ih =>
    cases i with
    | zero => simp
    | succ i => rw [List.drop_succ_cons, sgC_cons, ih, show (i + 1) * 5 = (sgC1 r).length + i * 5 by simp [sgC1]; omega, List.drop_append]; simp
theorem sgC_take (l : List Sg) (i : Nat) : sgC (l.take i) = (sgC l).take (i * 5) := by
  induction l generalizing i with
  | nil => simp [sgC]
  | cons r l ih =>
    cases i with
    | zero => simp [sgC]
    | succ i => rw [List.take_succ_cons, sgC_cons, sgC_cons, ih, show (i + 1) * 5 = (sgC1 r).length + i * 5 by simp [sgC1]; omega, List.take_length_add_append]
theorem row_dropS {w : World} {b off : Nat} {l : List Sg} (h : RowAt w (some ⟨b, off, none⟩) (sgC l)) (i : Nat) : RowAt w (some ⟨b, off + i * 5, none⟩) (sgC (l.drop i)) := fun j v hv => by
  rw [sgC_drop, List.getElem?_drop] at hv
  obtain ⟨b', off', e, hl, hc⟩ := h _ v hv
  injection e with e
  injection e with e1 e2
  subst e1 e2
  exact ⟨b, off + i * 5, rfl, hl, by rw [Nat.add_assoc]; exact hc⟩
theorem row_takeS {w : World} {A : Option Addr} {l : List Sg} (h : RowAt w A (sgC l)) (i : Nat) : RowAt w A (sgC (l.take i)) := fun j v hv => by
  rw [sgC_take] at hv
  exact h j v (by
    rw [List.getElem?_take] at hv
    split at hv
    · exact hv
    · cases hv)
theorem row_nilS {w : World} {A : Option Addr} : RowAt w A (sgC []) := fun j v hv => by simp [sgC] at hv
theorem sgC_one (l : List Sg) : ∀ u ∈ sgC l, u.oneCell' = true := fun u hu => by
  obtain ⟨g, _, hg⟩ := List.mem_flatMap.1 hu
  simp [sgC1] at hg
  rcases hg with rfl | rfl | rfl | rfl | rfl <;> rfl
theorem rcC_one' (l : List Rc) : ∀ u ∈ rcC l, u.oneCell' = true := fun u hu => by
  obtain ⟨g, _, hg⟩ := List.mem_flatMap.1 hu
  simp [recC1] at hg
  rcases hg with rfl | rfl | rfl | rfl | rfl <;> rfl

/-- A log in memory: block x. -/
def walC (a : Addr) (la ct sz : Nat) : List Value := [.pointer (some a), .int .i64 (la : Nat), .int .i64 (ct : Nat), .int .i64 (sz : Nat)]
def WalM (w : World) (x : Nat) (a : Addr) (la ct sz : Nat) : Prop := Holds w x 67 (walC a la ct sz)
theorem WalM.cells {w : World} {x : Nat} {a : Addr} {la ct sz : Nat} (h : WalM w x a la ct sz) : w.cell? ⟨x, 0, none⟩ = some (.pointer (some a)) ∧ w.cell? ⟨x, 1, none⟩ = some (.int .i64 (la : Nat)) ∧ w.cell? ⟨x, 2, none⟩ = some (.int .i64 (ct : Nat)) ∧ w.cell? ⟨x, 3, none⟩ = some (.int .i64 (sz : Nat)) ∧ w.frozen? ⟨x, 1, none⟩ = false ∧ w.frozen? ⟨x, 2, none⟩ = false ∧ w.frozen? ⟨x, 3, none⟩ = false :=
  ⟨Holds.cell h rfl, Holds.cell h rfl, Holds.cell h rfl, Holds.cell h rfl, Holds.frozen h 1, Holds.frozen h 2, Holds.frozen h 3⟩
def set3 (w : World) (x : Nat) (la ct sz : Nat) : World := ((w.setCell ⟨x, 1, none⟩ (.int .i64 (la : Nat))).setCell ⟨x, 2, none⟩ (.int .i64 (ct : Nat))).setCell ⟨x, 3, none⟩ (.int .i64 (sz : Nat))
theorem set3_wal {w : World} {x : Nat} {a : Addr} {la ct sz : Nat} (h : WalM w x a la ct sz) (la' ct' sz' : Nat) : WalM (set3 w x la' ct' sz') x a la' ct' sz' :=
  Holds.set (Holds.set (Holds.set h 1 (.int .i64 (la' : Nat))) 2 (.int .i64 (ct' : Nat))) 3 (.int .i64 (sz' : Nat))
theorem set3_only {F : Nat → Prop} {u w : World} {x : Nat} (h : Only F u w) (hx : F x ∨ u.heap.size ≤ x) (la ct sz : Nat) : Only F u (set3 w x la ct sz) :=
  ((h.setCell ⟨x, 1, none⟩ _ hx).setCell ⟨x, 2, none⟩ _ hx).setCell ⟨x, 3, none⟩ _ hx
theorem WalM.only {F : Nat → Prop} {w w' : World} {x : Nat} {a : Addr} {la ct sz : Nat} (h : WalM w x a la ct sz) (ho : Only F w w') (hx : ¬ F x) : WalM w' x a la ct sz :=
  (ho.block x (Holds.lt h) hx).trans h
theorem WalM.drew {w : World} {x : Nat} {a : Addr} {la ct sz : Nat} (h : WalM w x a la ct sz) : WalM w.drew x a la ct sz := h
end Go.Proofs.YtdneobnnmmlebaaGreatDoor
