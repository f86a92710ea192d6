/- Texts of one claim, joined: WS WT. -/
import Derived.Test.YtdneobnnmmlebaaGreatDoorWR
/-
  Two rows of a law's own, put one behind another in whatever order; the fuse's bounds; what the law WalCrash reads.
-/
namespace Go.Proofs.YtdneobnnmmlebaaGreatDoor
open Go.RowKit

def boC (l : List Bool) : List Value := l.map fun b => .bool b
theorem boC_append (l m : List Bool) : boC (l ++ m) = boC l ++ boC m := by simp [boC]
theorem infoBo : (Tryz.prog.info? 4).map (fun i => (i.zero, i.size, i.bytes)) = some (some (.bool false), 1, 1) := by kernel_rfl
/-- A row of records and a row of flags. -/
structure TwoRows (B : Nat) (w0 : World) (v1 : Value) (l1 : List Rc) (v2 : Value) (l2 : List Bool) (w : World) : Prop where
  one : w.ownsRow B 28 5 v1 l1.length (rcC l1)
  two : w.ownsRow B 4 1 v2 l2.length (boC l2)
  since : Below B w0 w
  big : B ≤ w.heap.size
section
variable {B : Nat} {w0 w w' : World} {v1 v2 : Value} {l1 : List Rc} {l2 : List Bool}
theorem TwoRows.below (h : TwoRows B w0 v1 l1 v2 l2 w) (hb : Below w.heap.size w w') : TwoRows B w0 v1 l1 v2 l2 w' :=
  ⟨own_below h.one hb, own_below h.two hb, h.since.trans (hb.mono h.big), Nat.le_trans h.big hb.size⟩
theorem TwoRows.alloc (h : TwoRows B w0 v1 l1 v2 l2 w) (o : Obj) : TwoRows B w0 v1 l1 v2 l2 (w.alloc o) := h.below ((Below.refl _ _).alloc (Nat.le_refl _) o)
theorem TwoRows.drew (h : TwoRows B w0 v1 l1 v2 l2 w) : TwoRows B w0 v1 l1 v2 l2 w.drew := h.below ((Below.refl _ _).drew)
theorem TwoRows.apart (h : TwoRows B w0 v1 l1 v2 l2 w) {j : Nat} (h1 : v1.ownBlock = some j) : v2.ownBlock ≠ some j := fun h2 => by
  obtain ⟨c1, e1⟩ := own_cells h.one h1
  obtain ⟨c2, e2⟩ := own_cells h.two h2
  rw [e1] at e2
  simp at e2
theorem row_alloc {A : Option Addr} {cs : List Value} (h : RowAt w A cs) (o : Obj) : RowAt (w.alloc o) A cs := h.below ((Below.refl w.heap.size w).alloc (Nat.le_refl _) o) (Nat.le_refl _)
theorem row_of_grown {A : Addr} {cs : List Value} {j : Option Nat} (h : RowAt w (some A) cs) (hg : w.grownBy w' j) (hne : j ≠ some A.block) : RowAt w' (some A) cs := fun i v hv => by
  obtain ⟨b, off, e, hl, hc⟩ := h i v hv
  injection e with e
  subst e
  exact ⟨b, off, rfl, Nat.lt_of_lt_of_le hl hg.size, hg.cell hc (fun e => hne e.symm)⟩
set_option maxRecDepth 100000 in
/-- A record behind the first row, as a step of a region that draws. -/
theorem step_two1 {ops : Array Oper} {o : Oper} {a : Act} {K : Act → World → Prop} {Q : Exit → Act → World → Prop} {E : Prop} (hgd : o.guard = none) (s x : Operand)
    (ho : o.op = .call { callee := .builtin .append, args := #[s, x], argTypes := #[25, 25] }) (h : TwoRows B w0 v1 l1 v2 l2 w) (hs : a.eval s = v1) (r : Rc) (b c : Nat) (hx : a.eval x = .slice (some ⟨b, 0, none⟩) 1 c) (hrow : RowAt w (some ⟨b, 0, none⟩) (recC1 r)) (hn : l1.length ≤ 1000000)
    (hk : ∀ g cap w', TwoRows B w0 (.slice (some ⟨g, 0, none⟩) (l1.length + 1) cap) (l1 ++ [r]) v2 l2 w' → w.grownBy w' v1.ownBlock → K (a.put o.dst (.slice (some ⟨g, 0, none⟩) (l1.length + 1) cap)) w') :
    if Region.wanted o (yielded ops a.tmps) = true then Oper.wp Tryz.prog o a w K Q else E := by
  obtain ⟨i0, hi0, hz0, hz1, hz2⟩ := info_parts infoR
  refine step_append_lies _ hgd s x 25 ho B 28 i0 _ 5 48 Tryz.underlying25 hi0 hz0 hz1 hz2 rfl (by omega) v1 l1.length (rcC l1) hs h.one ⟨b, 0, none⟩ 1 c (recC1 r) hx rfl ?_ (by intro u hu; simp [recC1] at hu; rcases hu with rfl | rfl | rfl | rfl | rfl <;> rfl) (by omega) (by unfold maxLen; omega) (by omega) h.big _ rfl ?_
  · intro j u hu
    obtain ⟨b', off', hA', _, hc⟩ := hrow j u hu
    injection hA' with hA'
    injection hA' with e1 e2
    subst e1 e2
    rw [row_add]; exact hc
  · intro g cap w' hown' hgrow _ _
    have hl : (l1 ++ [r]).length = l1.length + 1 := by simp
    have hown2 : w'.ownsRow B 28 5 (.slice (some ⟨g, 0, none⟩) (l1.length + 1) cap) (l1 ++ [r]).length (rcC (l1 ++ [r])) := by
      rw [hl, rcC_append, rcC_cons]
      have : rcC [] = [] := rfl
      rw [this, List.append_nil]; exact hown'
    refine hk g cap w' ⟨hown2, ?_, h.since.grown hgrow h.big (fun j hj => (World.ownsRow.lt h.one j hj).1), Nat.le_trans h.big hgrow.size⟩ hgrow
    refine World.ownsRow.kept h.two hgrow ?_
    cases hv : v2.ownBlock with
    | none => exact .inl rfl
    | some j => exact .inr (fun e => h.apart e.symm hv)
set_option maxRecDepth 100000 in
theorem step_two2 {ops : Array Oper} {o : Oper} {a : Act} {K : Act → World → Prop} {Q : Exit → Act → World → Prop} {E : Prop} (hgd : o.guard = none) (s x : Operand)
    (ho : o.op = .call { callee := .builtin .append, args := #[s, x], argTypes := #[26, 26] }) (h : TwoRows B w0 v1 l1 v2 l2 w) (hs : a.eval s = v2) (r : Bool) (b c : Nat) (hx : a.eval x = .slice (some ⟨b, 0, none⟩) 1 c) (hrow : RowAt w (some ⟨b, 0, none⟩) [.bool r]) (hn : l2.length ≤ 1000000)
    (hk : ∀ g cap w', TwoRows B w0 v1 l1 (.slice (some ⟨g, 0, none⟩) (l2.length + 1) cap) (l2 ++ [r]) w' → w.grownBy w' v2.ownBlock → K (a.put o.dst (.slice (some ⟨g, 0, none⟩) (l2.length + 1) cap)) w') :
    if Region.wanted o (yielded ops a.tmps) = true then Oper.wp Tryz.prog o a w K Q else E := by
  obtain ⟨i0, hi0, hz0, hz1, hz2⟩ := info_parts infoBo
  refine step_append_lies _ hgd s x 26 ho B 4 i0 _ 1 1 Tryz.underlying26 hi0 hz0 hz1 hz2 rfl (by omega) v2 l2.length (boC l2) hs h.two ⟨b, 0, none⟩ 1 c [.bool r] hx rfl ?_ (by intro u hu; simp at hu; subst hu; rfl) (by omega) (by unfold maxLen; omega) (by omega) h.big _ rfl ?_
  · intro j u hu
    obtain ⟨b', off', hA', _, hc⟩ := hrow j u hu
    injection hA' with hA'
    injection hA' with e1 e2
    subst e1 e2
    rw [row_add]; exact hc
  · intro g cap w' hown' hgrow _ _
    have hl : (l2 ++ [r]).length = l2.length + 1 := by simp
    have hown2 : w'.ownsRow B 4 1 (.slice (some ⟨g, 0, none⟩) (l2.length + 1) cap) (l2 ++ [r]).length (boC (l2 ++ [r])) := by
      rw [hl, boC_append]; exact hown'
    refine hk g cap w' ⟨?_, hown2, h.since.grown hgrow h.big (fun j hj => (World.ownsRow.lt h.two j hj).1), Nat.le_trans h.big hgrow.size⟩ hgrow
    refine World.ownsRow.kept h.one hgrow ?_
    cases hv : v1.ownBlock with
    | none => exact .inl rfl
    | some j => exact .inr (fun e => h.apart hv e.symm)
end
/-! The fuse's bounds. -/
def FB (s : St) : Prop := -1 ≤ s.fuse ∧ s.fuse ≤ 9223372036854775807
theorem FB.burn {s : St} (h : FB s) : FB (burnS s) := by
  unfold FB burnS at *
  simp only
  split <;> omega
theorem FB.app {s : St} (h : FB s) (nm b : List UInt8) : FB (appendS nm b s).2 := by
  rcases app_cases nm b s with e | e | e
  · rw [e]; exact h
  · rw [e]; exact h.burn
  · rw [e]; exact h.burn
theorem FB.sync {s : St} (h : FB s) (nm : List UInt8) : FB (syncS nm s).2 := by
  unfold syncS onS
  split
  · exact h
  · split
    · exact h
    · simp only
      split
      · exact h.burn
      · exact h.burn
theorem FB.appW {s : St} (h : FB s) (l : List Rc) (L : Lg) : FB (appendW l L s).2 := by
  unfold appendW
  split
  · split
    · exact h.sync _
    · exact (h.sync _).app _ _
  · exact h.app _ _
theorem app_room (nm b : List UInt8) (s : St) : (appendS nm b s).2.room = s.room := by
  rcases app_cases nm b s with e | e | e <;> rw [e] <;> rfl
theorem sync_room (nm : List UInt8) (s : St) : (syncS nm s).2.room = s.room := by
  unfold syncS onS
  split
  · rfl
  · split
    · rfl
    · simp only
      split <;> rfl
theorem appW_room (l : List Rc) (L : Lg) (s : St) : (appendW l L s).2.room = s.room := by
  unfold appendW
  split
  · split
    · exact sync_room _ _
    · rw [app_room, sync_room]
  · exact app_room _ _ _

/-! What is put: a record, and whether it is synced behind it. -/
abbrev Pt := Rc × Bool
def ptC1 (p : Pt) : List Value := recC1 p.1 ++ [.bool p.2]
def ptC (l : List Pt) : List Value := l.flatMap ptC1
theorem ptC_length (l : List Pt) : (ptC l).length = l.length * 6 := by
  induction l with
  | nil => rfl
  | cons s l ih => simp only [ptC, List.flatMap_cons, List.length_append, List.length_cons, ptC1, recC1, List.length_nil] at *; omega
theorem ptC_cons (r : Pt) (l : List Pt) : ptC (r :: l) = ptC1 r ++ ptC l := rfl
theorem ptC_at : ∀ (l : List Pt) (i : Nat) (r : Pt) (k : Nat), l[i]? = some r → k < 6 → (ptC l)[i * 6 + k]? = (ptC1 r)[k]?
  | [], i, r, k, h, _ => by simp at h
  | q :: l, 0, r, k, h, hk => by
    obtain rfl : q = r := by simpa using h
    rw [ptC_cons, Nat.zero_mul, Nat.zero_add, List.getElem?_append_left (by simp [ptC1, recC1]; omega)]
  | q :: l, i + 1, r, k, h, hk => by
    have := ptC_at l i r k (by simpa using h) hk
    rw [ptC_cons, show (i + 1) * 6 + k = (ptC1 q).length + (i * 6 + k) by simp [ptC1, recC1]; omega, List.getElem?_append_right (by omega), Nat.add_sub_cancel_left]
    exact this
theorem row_pt {w : World} {A : Option Addr} {l : List Pt} (h : RowAt w A (ptC l)) {i : Nat} {r : Pt} (hr : l[i]? = some r) : ∃ b off, A = some (⟨b, off, none⟩ : Addr) ∧ b < w.heap.size ∧
    w.cell? ⟨b, off + i * 6, none⟩ = some (.int .i64 r.1.kind) ∧ w.cell? ⟨b, off + i * 6 + 1, none⟩ = some (.int .i64 r.1.idx) ∧ w.cell? ⟨b, off + i * 6 + 2, none⟩ = some (.int .i64 r.1.term) ∧ w.cell? ⟨b, off + i * 6 + 3, none⟩ = some (.int .i64 r.1.vote) ∧ w.cell? ⟨b, off + i * 6 + 4, none⟩ = some (.string (bs r.1.data)) ∧ w.cell? ⟨b, off + i * 6 + 5, none⟩ = some (.bool r.2) := by
  have g := fun k v (hk : k < 6) (hv : (ptC1 r)[k]? = some v) => h (i * 6 + k) v ((ptC_at l i r k hr hk).trans hv)
  obtain ⟨b, off, hA, hl, c0⟩ := g 0 _ (by omega) rfl
  have f := fun k v (hk : k < 6) (hv : (ptC1 r)[k]? = some v) => show w.cell? ⟨b, off + i * 6 + k, none⟩ = some v by
    obtain ⟨b', off', hA', _, c⟩ := g k v hk hv
    rw [hA] at hA'; injection hA' with e; injection e with e1 e2; subst e1 e2
    rw [Nat.add_assoc]; exact c
  exact ⟨b, off, hA, hl, by simpa using c0, f 1 _ (by omega) rfl, f 2 _ (by omega) rfl, f 3 _ (by omega) rfl, f 4 _ (by omega) rfl, f 5 _ (by omega) rfl⟩
def okP (p : Pt) : Bool := decide (p.1.data.length ≤ 1000) && decide (rightR p.1)
def okL (l : List Pt) : List Pt := l.filter okP
theorem okL_take {l : List Pt} {i : Nat} {p : Pt} (h : l[i]? = some p) : okL (l.take (i + 1)) = if okP p = true then okL (l.take i) ++ [p] else okL (l.take i) := by
  unfold okL
  rw [List.take_add_one, h, List.filter_append]
  by_cases hp : okP p = true
  · rw [if_pos hp]; simp [hp]
  · rw [if_neg hp]; simp [hp]
theorem okL_small (l : List Pt) : Small ((okL l).map (·.1)) := fun r hr => by
  obtain ⟨p, hp, rfl⟩ := List.mem_map.1 hr
  have := (List.mem_filter.1 hp).2
  unfold okP at this
  simp only [Bool.and_eq_true, decide_eq_true_eq] at this
  exact ⟨this.2, this.1⟩
theorem okL_le (l : List Pt) : (okL l).length ≤ l.length := List.length_filter_le _ _
end Go.Proofs.YtdneobnnmmlebaaGreatDoor

/-
  WalCrash, from what it asks of the program's disk and log.
-/
namespace Go.Proofs.YtdneobnnmmlebaaGreatDoor
open Go.RowKit

/-- What is put, and the flags. -/
def prR (l : List Pt) : List Rc := l.map (·.1)
def prS (l : List Pt) : List Bool := l.map (·.2)
/-- The second loop: so many are put, so many surely. -/
structure CrL (G : GoodD) (V : GoodW G) (B : Nat) (w0 : World) (a x : Addr) (m : List Rc) (sure : Nat) (wr : World) : Prop where
  ex : ∃ F FX s L, LogAt G V B wr a F s x FX L ∧ CrI m sure L s ∧ s.off = false ∧ s.room = 8388608 ∧ FB s
  since : Below B w0 wr
  big : B ≤ wr.heap.size
/-- Behind it: the disk alone. -/
structure CrT (G : GoodD) (B : Nat) (w0 : World) (a : Addr) (m : List Rc) (sure : Nat) (wr : World) : Prop where
  ex : ∃ F s, Lon G B wr a F s ∧ CrE m sure s ∧ s.room = 8388608 ∧ FB s
  since : Below B w0 wr
  big : B ≤ wr.heap.size
section
variable {G : GoodD} {V : GoodW G} {B : Nat} {w0 w wr w' : World} {a x : Addr} {m : List Rc} {sure : Nat}
theorem CrL.t (h : CrL G V B w0 a x m sure wr) : CrT G B w0 a m sure wr := by
  obtain ⟨⟨F, FX, s, L, h1, h2, _, h4, h5⟩, hs, hb⟩ := h
  exact ⟨⟨F, s, h1.lone, h2.e, h4, h5⟩, hs, hb⟩
theorem CrL.below (h : CrL G V B w0 a x m sure wr) (hb : Below wr.heap.size wr w') : CrL G V B w0 a x m sure w' := by
  obtain ⟨⟨F, FX, s, L, h1, h2, h3, h4, h5⟩, hs, hbg⟩ := h
  exact ⟨⟨F, FX, s, L, h1.below hbg hb, h2, h3, h4, h5⟩, hs.trans (hb.mono hbg), Nat.le_trans hbg hb.size⟩
/-- One record put. -/
theorem CrL.put (h : CrL G V B w0 a x m sure wr) (hm : Small m) (hl : m.length ≤ 100) (r : Rc) (hr : rightR r) (hd : r.data.length ≤ 1000) (W : World) (hb0 : Below wr.heap.size wr W) (A : Option Addr) (cap : Nat) (hrow : RowAt W A (rcC [r])) (hA : ∀ g off, A = some (⟨g, off, none⟩ : Addr) → wr.heap.size ≤ g) :
    Calls Tryz.prog 13 #[.pointer (some x), .slice A 1 cap] W fun e w' => ∃ c : Int, e = .returned (.int .i64 c) ∧ ((c = 0 ∧ CrL G V B w0 a x (m ++ [r]) sure w') ∨ (c ≠ 0 ∧ CrT G B w0 a m sure w')) := by
  obtain ⟨⟨F, FX, s, L, h1, h2, h3, h4, h5⟩, hs, hbg⟩ := h
  have hfit : Fit s := h2.fit hm (by omega) (by rw [h4]; decide) (by rw [h4]; decide) h5.1 h5.2
  have hu := h2.used
  have hf1 := frames_small hm
  have hf2 := frame_small hr hd
  have hf3 := head_small (n := 0) (by unfold top; omega)
  obtain ⟨g1, g2, g3⟩ := h2.lasts
  have e1 : (framesL [r]).length = (frameL r).length := by simp [framesL]
  refine ((h1.below hbg hb0).appends (Nat.le_trans hbg hb0.size) hfit h3 [r] A 1 cap (fun q hq => by
    have e : q = r := by simpa using hq
    subst e; exact hr) rfl (by omega) hrow (fun g off e _ => h1.new (hA g off e)) (by rw [e1]; omega) g2 (by unfold mostS; omega)).mono ?_
  rintro e w' ⟨rfl, F', FX', hl', hx', ho, _, _, hb, hz⟩
  refine ⟨_, rfl, ?_⟩
  have hs' := (hs.trans (hb0.mono hbg)).trans hb
  rcases crI_append h2 r (by omega) h3 (by rw [h4, hu]; omega) with ⟨a1, a2, a3, _, a5⟩ | ⟨a1, _, a5⟩
  · exact .inl ⟨a1, ⟨F', FX', _, _, hx' a1, a5, a2, a3.trans h4, h5.appW _ _⟩, hs', hz⟩
  · exact .inr ⟨a1, ⟨F', _, hl', a5, (appW_room _ _ _).trans h4, h5.appW _ _⟩, hs', hz⟩
/-- All that is put is synced. -/
theorem CrL.sync (h : CrL G V B w0 a x m sure wr) (hm : Small m) (hl : m.length ≤ 100) :
    Calls Tryz.prog 14 #[.pointer (some x)] wr fun e w' => ∃ c : Int, e = .returned (.int .i64 c) ∧ ((c = 0 ∧ CrL G V B w0 a x m m.length w') ∨ (c ≠ 0 ∧ CrT G B w0 a m sure w')) := by
  obtain ⟨⟨F, FX, s, L, h1, h2, h3, h4, h5⟩, hs, hbg⟩ := h
  have hfit : Fit s := h2.fit hm (by omega) (by rw [h4]; decide) (by rw [h4]; decide) h5.1 h5.2
  obtain ⟨g1, g2, g3⟩ := h2.lasts
  refine (h1.syncs hbg hfit h3 g2 (by unfold mostS; omega)).mono ?_
  rintro e w' ⟨rfl, F', FX', hl', hx', ho, _, _, hb, hz⟩
  refine ⟨_, rfl, ?_⟩
  rcases crI_sync h2 h3 with ⟨a1, a2, a3, _, a5⟩ | ⟨a1, _, a5⟩
  · exact .inl ⟨a1, ⟨F', FX', _, _, hx' a1, a5, a2, a3.trans h4, h5.sync _⟩, hs.trans hb, hz⟩
  · exact .inr ⟨a1, ⟨F', _, hl', a5, (sync_room _ _).trans h4, h5.sync _⟩, hs.trans hb, hz⟩
/-- The crash. -/
structure CrC (G : GoodD) (B : Nat) (w0 : World) (a : Addr) (m : List Rc) (sure : Nat) (wr : World) : Prop where
  ex : ∃ F s, Lon G B wr a F s ∧ Fit s ∧ s.off = false ∧ s.fuse = -1 ∧ RiseF s.files ∧ ∀ F la sz recs, Tells s.files F la sz recs → recs <+: m ∧ sure ≤ recs.length
  since : Below B w0 wr
  big : B ≤ wr.heap.size
theorem CrT.crash (h : CrT G B w0 a m sure wr) (hm : Small m) (hl : m.length ≤ 100) (keep : List Int) (A : Option Addr) (kl kc : Nat) (hk : keep.length = kl) (hrow : RowAt wr A (intC keep)) (hA : ∀ g off, A = some (⟨g, off, none⟩ : Addr) → 0 < kl → g < B) (hI : ∀ z ∈ keep, I64 z) (hkl : kl ≤ 9223372036854775807) :
    Calls Tryz.prog 15 #[.pointer (some a), .slice A kl kc] wr fun e w' => e = .returned (.tuple #[]) ∧ CrC G B w0 a m sure w' := by
  obtain ⟨⟨F, s, h1, h2, h4, h5⟩, hs, hbg⟩ := h
  have hu := h2.used
  have hf1 := frames_small hm
  have hf3 := head_small (n := 0) (by unfold top; omega)
  have hlen : s.files.length ≤ 1000000 := by
    obtain ⟨ini, rs, dl, g1, g2, g3, g4⟩ := h2
    rw [g1.files]
    unfold filesOf
    rw [List.length_append, fulls_len]
    show ini.length + 1 ≤ _
    omega
  have hfit : Fit s := ⟨by rw [h4]; decide, by rw [h4]; decide, h5.1, h5.2, by omega, hlen⟩
  refine (h1.ret' hbg (G.crash keep A kl kc a F s wr h1.d hfit hk hrow (fun g off e h0 hF => by have := hA g off e h0; have := h1.base g hF; omega) hI hkl)).mono ?_
  rintro e w' ⟨rfl, F', hl', _, _, hb, hz⟩
  have hcu := crash_used keep s.files 0
  have hcl := crashL_length keep s.files 0
  exact ⟨rfl, ⟨F', _, hl', ⟨by show 0 ≤ s.room; rw [h4]; decide, by show s.room ≤ _; rw [h4]; decide, by show (-1 : Int) ≤ -1; decide, by show (-1 : Int) ≤ _; decide, Nat.le_trans hcu hfit.used, by show (crashL keep 0 s.files).length ≤ _; rw [hcl]; exact hfit.len⟩, rfl, rfl, G.rise hl'.d, fun F la sz recs ht => cr_tells h2 hm.right keep ht (G.rise hl'.d)⟩, hs.trans hb, hz⟩
/-- The opening behind it. -/
theorem CrC.opens (h : CrC G B w0 a m sure wr) (V : GoodW G) : Calls Tryz.prog 10 #[.pointer (some a)] wr fun e w' => ∃ x A n cap recs, e = .returned (.tuple #[.pointer (some x), .slice A n cap, .int .i64 0]) ∧ recs.length = n ∧ n ≤ 9223372036854775807 ∧ RowAt w' A (rcC recs) ∧ recs <+: m ∧ sure ≤ recs.length ∧ Below B w0 w' ∧ B ≤ w'.heap.size := by
  obtain ⟨⟨F, s, h1, h2, h3, h4, h5, h6⟩, hs, hbg⟩ := h
  refine (h1.opens V hbg h2 h3 h4).mono ?_
  rintro e w' ⟨x, FX, A, n, cap, F', s', L, recs, he, _, hok, hm, hn, hr, _, _, _, _, hb, hz⟩
  obtain ⟨g1, g2⟩ := h6 _ _ _ _ hok.tells
  exact ⟨x, A, n, cap, recs, he, hm, hn, hr, g1, g2, hs.trans hb, hz⟩
end
theorem begins_true {m l : List Rc} {sure put i : Nat} (h : m <+: l.take i) (hs : sure ≤ m.length) (hi : i ≤ put) : beginsB m (l.take put) (sure : Int) = true := by
  have h1 : m <+: l.take put := h.trans (by
    have := List.take_prefix i (l.take put)
    rwa [List.take_take, Nat.min_eq_left hi] at this)
  have h2 := h1.length_le
  unfold beginsB
  rw [decide_eq_true (by omega), decide_eq_true h2, Bool.true_and, Bool.true_and, sameB_iff]
  exact (List.prefix_iff_eq_take.1 h1)
end Go.Proofs.YtdneobnnmmlebaaGreatDoor
