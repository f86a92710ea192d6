/-
  The contract of (*wal.Wal).take.
-/
import Derived.Test.YtdneobnnmmlebaaGreatDoorLM
import Derived.Test.YtdneobnnmmlebaaGreatDoorWN
namespace Go.Proofs.YtdneobnnmmlebaaGreatDoor
open Go.RowKit

/-- So many are taken and whole. -/
def TkPre (l : List Sg) (i : Nat) : Prop := i ≤ l.length ∧ (∀ k x, k < i → l[k]? = some x → ¬ x.good < x.c.length) ∧ ∀ k x y, k + 1 < i → l[k]? = some x → l[k + 1]? = some y → y.n = x.n + 1
theorem TkPre.stop {l : List Sg} {i : Nat} (h : TkPre l i) (hi : 1 ≤ i) (hne : ∀ x y, l[i - 1]? = some x → l[i]? = some y → y.n ≠ x.n + 1) : TkOf l i :=
  .inr ⟨hi, h.1, fun k x y hk hx hy => ⟨h.2.1 k x (by omega) hx, h.2.2 k x y hk hx hy⟩, fun x hx => .inr fun y hy => hne x y hx hy⟩
theorem TkPre.done {l : List Sg} (h : TkPre l l.length) : TkOf l l.length := by
  by_cases h0 : l = []
  · subst h0; exact .inl ⟨rfl, rfl⟩
  · exact h.stop (by have := List.length_pos_iff.2 h0; omega) (fun x y _ hy => by simp at hy)
theorem TkPre.torn {l : List Sg} {i : Nat} {x : Sg} (h : TkPre l i) (hx : l[i]? = some x) (hn : i = 0 ∨ ∀ y, l[i - 1]? = some y → x.n = y.n + 1) (ht : x.good < x.c.length) : TkOf l (i + 1) := by
  refine .inr ⟨by omega, (List.getElem?_eq_some_iff.1 hx).1, fun k a b hk ha hb => ⟨h.2.1 k a (by omega) ha, ?_⟩, fun y hy => ?_⟩
  · by_cases hki : k + 1 = i
    · subst hki
      rw [hx] at hb
      injection hb with hb
      subst hb
      rcases hn with hn | hn
      · omega
      · exact hn a ha
    · exact h.2.2 k a b (by omega) ha hb
  · rw [Nat.add_sub_cancel, hx] at hy
    injection hy with hy
    subst hy
    exact .inl ht
theorem TkPre.next {l : List Sg} {i : Nat} {x : Sg} (h : TkPre l i) (hx : l[i]? = some x) (hn : i = 0 ∨ ∀ y, l[i - 1]? = some y → x.n = y.n + 1) (ht : ¬ x.good < x.c.length) : TkPre l (i + 1) := by
  refine ⟨(List.getElem?_eq_some_iff.1 hx).1, fun k a hk ha => ?_, fun k a b hk ha hb => ?_⟩
  · by_cases hki : k = i
    · subst hki
      rw [hx] at ha
      injection ha with ha
      subst ha
      exact ht
    · exact h.2.1 k a (by omega) ha
  · by_cases hki : k + 1 = i
    · subst hki
      rw [hx] at hb
      injection hb with hb
      subst hb
      rcases hn with hn | hn
      · omega
      · exact hn a ha
    · exact h.2.2 k a b (by omega) ha hb
theorem modify_map {l : List Fl} (hr : RiseF l) {i : Nat} {f : Fl} (h : l[i]? = some f) (g : Fl → Fl) : l.modify i g = l.map fun x => if x.1 = f.1 then g x else x := by
  induction l generalizing i with
  | nil => simp at h
  | cons y l ih =>
    cases i with
    | zero =>
      obtain rfl : y = f := by simpa using h
      rw [List.modify_zero_cons, List.map_cons, if_pos rfl]
      congr 1
      have : l.map (fun x => if x.1 = y.1 then g x else x) = l.map id := List.map_congr_left fun x hx => by rw [if_neg (rise_after hr x hx).2]; rfl
      rw [this, List.map_id]
    | succ i =>
      have hf : l[i]? = some f := by simpa using h
      have hne : y.1 ≠ f.1 := fun e => (rise_after hr f (List.mem_of_getElem? hf)).2 e.symm
      rw [List.modify_succ_cons, List.map_cons, if_neg hne, ih (rise_rest hr) hf]
theorem cut_ok {s : St} (hr : RiseF s.files) (ho : s.off = false) (hf : s.fuse = -1) {f : Fl} (h : f ∈ s.files) {n k j : Nat} (hn : f.1 = fileL n) (hk : k ≤ (contF f).length) (hj : 1 ≤ j) : cutS (fileL n) (k : Int) s = (0, { s with files := cutM j n k s.files }) := by
  obtain ⟨i, hi⟩ := List.mem_iff_getElem?.1 h
  have hsz : sizeF f = (contF f).length := by unfold sizeF contF; rw [List.length_append]
  unfold cutS onS
  rw [if_neg (by rw [ho]; simp), ← hn, atN_rise hr hi]
  simp only
  have hb : cutBad (k : Int) s.files i = none := by
    unfold cutBad
    rw [hi]
    simp only
    rw [if_neg (by omega)]
  rw [hb]
  simp only
  rw [burn_none ho hf, if_neg (by rw [ho]; simp), modify_map hr hi]
  unfold cutM
  rw [hn]
  congr 2
  refine List.map_congr_left fun x _ => ?_
  simp only [Int.toNat_natCast]
  by_cases hx : x.1 = fileL n
  · rw [if_pos hx, if_pos ⟨hj, hx⟩]
  · rw [if_neg hx, if_neg (fun e => hx e.2)]
theorem cutM_whole {l : List Fl} (hr : RiseF l) {n k j : Nat} {f : Fl} (h : f ∈ l) (hn : f.1 = fileL n) (hk : k = (contF f).length) : cutM j n k l = l := by
  unfold cutM
  have : l.map (fun f => if 1 ≤ j ∧ f.1 = fileL n then cutF k f else f) = l.map id := List.map_congr_left fun x hx => by
    by_cases hc : 1 ≤ j ∧ x.1 = fileL n
    · rw [if_pos hc]
      have e := rise_mem hr hx h (by rw [hc.2, hn])
      subst e
      exact cutF_whole (by rw [hk]; unfold sizeF contF; rw [List.length_append])
    · rw [if_neg hc]; rfl
  rw [this, List.map_id]
theorem fit_cut {s : St} (h : Fit s) (j n k : Nat) : Fit { s with files := cutM j n k s.files } := by
  refine ⟨h.room0, h.room1, h.fuse0, h.fuse1, ?_, by show (cutM j n k s.files).length ≤ _; unfold cutM; rw [List.length_map]; exact h.len⟩
  refine Nat.le_trans ?_ h.used
  show usedL (cutM j n k s.files) ≤ usedL s.files
  unfold cutM
  induction s.files with
  | nil => exact Nat.le_refl _
  | cons f l ih =>
    rw [List.map_cons]
    simp only [usedL]
    have : sizeF (if 1 ≤ j ∧ f.1 = fileL n then cutF k f else f) ≤ sizeF f := by
      split
      · unfold sizeF cutF
        simp only [List.length_take, List.length_drop, List.length_append]
        omega
      · exact Nat.le_refl _
    omega
theorem cut_names {l : List Fl} {j n k : Nat} {nm : List UInt8} (h : ∃ f ∈ l, f.1 = nm) : ∃ f ∈ cutM j n k l, f.1 = nm := by
  obtain ⟨f, hf, hn⟩ := h
  refine ⟨_, List.mem_map.2 ⟨f, hf, rfl⟩, ?_⟩
  show (if 1 ≤ j ∧ f.1 = fileL n then cutF k f else f).1 = nm
  split <;> exact hn
/-- The disk when so many are taken. -/
def tkS (l : List Sg) (j : Nat) (s : St) : St := { s with files := rmF ((l.drop j).map (·.n)) (cutM j (lastN l j) (lastG l j) s.files) }
def totR (l : List Sg) : Nat := (l.map fun g => g.recs.length).sum
theorem totR_take (l : List Sg) {i : Nat} {x : Sg} (hx : l[i]? = some x) : totR (l.take i) + x.recs.length ≤ totR l := by
  have h : l = l.take i ++ x :: l.drop (i + 1) := by
    obtain ⟨h1, h2⟩ := List.getElem?_eq_some_iff.1 hx
    rw [← h2, ← List.drop_eq_getElem_cons h1, List.take_append_drop]
  conv => rhs; rw [h]
  unfold totR
  rw [List.map_append, List.sum_append, List.map_cons, List.sum_cons]
  omega
theorem recsJ_len (l : List Sg) (j : Nat) : (recsJ l j).length = totR (l.take j) := by
  unfold recsJ totR
  induction l.take j with
  | nil => rfl
  | cons g m ih => rw [List.flatMap_cons, List.length_append, ih, List.map_cons, List.sum_cons]
theorem recsJ_next {l : List Sg} {i : Nat} {x : Sg} (hx : l[i]? = some x) : recsJ l (i + 1) = recsJ l i ++ x.recs := by
  unfold recsJ
  rw [List.take_add_one, hx, List.flatMap_append]
  simp
/-- What is asked of the segments that are taken: their files, and where they lie. -/
structure TkArg (w : World) (x : Nat) (F : Nat → Prop) (s : St) (l : List Sg) (A : Option Addr) (n cap : Nat) : Prop where
  len : l.length = n
  cap : n ≤ cap
  most : n ≤ 1000000
  row : RowAt w A (sgC l)
  far : ∀ b off, A = some (⟨b, off, none⟩ : Addr) → ¬ F b ∧ b ≠ x
  recs : ∀ g ∈ l, RowAt w g.A (rcC g.recs) ∧ ∀ b off, g.A = some (⟨b, off, none⟩ : Addr) → 0 < g.recs.length → b ≠ x
  tot : totR l ≤ 100000000
  diff : l.Pairwise fun p q => p.n ≠ q.n
  file : ∀ g ∈ l, g.n ≤ mostS ∧ g.good ≤ g.c.length ∧ g.c.length ≤ 1000000000 ∧ ∃ f ∈ s.files, f.1 = fileL g.n ∧ contF f = g.c
/-- What take answers. -/
def TkRet (G : GoodD) (x : Nat) (a : Addr) (F : Nat → Prop) (s : St) (l : List Sg) (w : World) (e : Ending) (w' : World) : Prop :=
  ∃ j A n cap F', TkOf l j ∧ e = .returned (.tuple #[.slice A n cap, .int .i64 0]) ∧ (recsJ l j).length = n ∧ n ≤ 9223372036854775807 ∧ RowAt w' A (rcC (recsJ l j)) ∧ (∀ b off, A = some (⟨b, off, none⟩ : Addr) → w.heap.size ≤ b ∧ ¬ F' b) ∧
    WalM w' x a (lastN l j) j (lastG l j) ∧ G.D w' a F' (tkS l j s) ∧ Only (fun k => F k ∨ k = x) w w' ∧ ∀ k, F' k → F k ∨ w.heap.size ≤ k

theorem tk_end {G : GoodD} {x : Nat} {a : Addr} {F F7 F8 : Nat → Prop} {s : St} {l : List Sg} {w w7 w8 : World} {j M : Nat} {A3 : Option Addr} {c3 : Nat} (hj : TkOf l j) (o7 : Only (fun k => F k ∨ k = x) w w7)
    (own7 : w7.ownsRow w.heap.size 28 5 (.slice A3 M c3) M (rcC (recsJ l j))) (hlen : (recsJ l j).length = M) (nf : ∀ k, (Value.slice A3 M c3).ownBlock = some k → ¬ F7 k) (wal7 : WalM w7 x a (lastN l j) j (lastG l j)) (nx : ¬ F7 x) (hg7 : ∀ k, F7 k → F k ∨ w.heap.size ≤ k) (hM : M ≤ 1000000000)
    (hd8 : G.D w8 a F8 (tkS l j s)) (ho8 : Only F7 w7 w8) (hg8 : ∀ k, F8 k → F7 k ∨ w7.heap.size ≤ k) : TkRet G x a F s l w (.returned (.tuple #[.slice A3 M c3, .int .i64 0])) w8 := by
  have own8 := own_only own7 ho8 (fun k hk e => nf k e hk)
  refine ⟨j, A3, M, c3, F8, hj, rfl, hlen, by omega, own_row' own8, fun b off e => ?_, wal7.only ho8 nx, hd8, o7.then ho8 (fun k hk => (hg7 k hk).elim (fun h => .inl (.inl h)) .inr), fun k hk => ?_⟩
  · have h1 := World.ownsRow.lt own7 b (by rw [e]; rfl)
    exact ⟨h1.1, fun h => (hg8 b h).elim (nf b (by rw [e]; rfl)) (fun h => by omega)⟩
  · rcases hg8 k hk with h | h
    · exact hg7 k h
    · exact .inr (Nat.le_trans o7.size h)
theorem row_part {w : World} {b off : Nat} {l : List Sg} (h : RowAt w (some ⟨b, off, none⟩) (sgC l)) (i cap : Nat) (hc : l.length ≤ cap) : RowAt w (if cap = i then some ⟨b, off, none⟩ else some ⟨b, off + i * 5, none⟩) (sgC (l.drop i)) := by
  split
  · rw [List.drop_of_length_le (by omega)]; exact row_nilS
  · exact row_dropS h i
theorem apart_part {b off i cap n : Nat} {F : Nat → Prop} (h : ¬ F b) : ApartA (if cap = i then some ⟨b, off, none⟩ else some ⟨b, off + i * 5, none⟩) n F := fun g o e _ => by
  split at e <;> injection e with e <;> injection e with e1 _ <;> rw [← e1] <;> exact h
theorem elem61 : Tryz.prog.underlying 61 = some (.slice (Tryz.prog.elem 61)) := by kernel_rfl
theorem size61 (W : World) : (Go.sizeOf (Tryz.prog.elem 61)).run Tryz.prog W = .ok 5 W := by kernel_rfl
/-- Where a part of a row of segments begins. -/
@[irreducible] def partA (b off k cap : Nat) : Option Addr := if cap = k then some ⟨b, off, none⟩ else some ⟨b, off + k * 5, none⟩
theorem partA_eq (b off k cap : Nat) : partA b off k cap = if cap = k then some ⟨b, off, none⟩ else some ⟨b, off + k * 5, none⟩ := by unfold partA; rfl
theorem slice_from (b off n cap k : Nat) (z : Int) (hz : z = (k : Int)) (hk : k ≤ n) (W : World) :
    (Instr.slice 61 (.slice (some ⟨b, off, none⟩) n cap) (some (.int .i64 z)) none none).run Tryz.prog W = .ok (.slice (partA b off k cap) (n - k) (cap - k)) W := by
  subst hz
  rw [run_slice_l W 61 _ n cap elem61 .i64 (k : Int) (by omega) (by omega), size61, Result.andThen_ok, Int.toNat_natCast]
  have e : (⟨b, off, none⟩ : Addr).add (k * 5) = ⟨b, off + k * 5, none⟩ := by
    by_cases hj : k * 5 = 0
    · simp [Addr.add, hj]
    · simp [Addr.add, hj]
  unfold sliced
  rw [partA_eq]
  simp only [Option.map_some, e]
theorem slice_upto (A : Option Addr) (n cap k : Nat) (z : Int) (hz : z = (k : Int)) (hk : k ≤ cap) (W : World) :
    (Instr.slice 61 (.slice A n cap) none (some (.int .i64 z)) none).run Tryz.prog W = .ok (.slice A k cap) W := by
  subst hz
  rw [run_slice_h W 61 _ n cap elem61 .i64 (k : Int) (by omega) (by omega), size61, Result.andThen_ok, Int.toNat_natCast]
  unfold sliced
  cases A with
  | none => by_cases h : cap = 0 <;> simp [h]
  | some a => by_cases h : cap = 0 <;> simp [h, Addr.add]
theorem cutM_zero (n k : Nat) (l : List Fl) : cutM 0 n k l = l := by
  unfold cutM
  have : l.map (fun f => if 1 ≤ 0 ∧ f.1 = fileL n then cutF k f else f) = l.map id := List.map_congr_left fun x _ => by rw [if_neg (fun e => by have := e.1; omega)]; rfl
  rw [this, List.map_id]
/-- Nothing is cut where the last one taken is whole. -/
theorem tkS_whole {w : World} {x : Nat} {F : Nat → Prop} {s : St} {l : List Sg} {A : Option Addr} {n cap i : Nat} (hr : RiseF s.files) (h : TkArg w x F s l A n cap) (hp : TkPre l i) : tkS l i s = rmS ((l.drop i).map (·.n)) s := by
  unfold tkS rmS
  by_cases h0 : i = 0
  · subst h0; rw [cutM_zero]
  · obtain ⟨y, hy⟩ : ∃ y, l[i - 1]? = some y := ⟨_, List.getElem?_eq_getElem (by have := hp.1; omega)⟩
    obtain ⟨e1, e2⟩ := lastN_at hy (by omega)
    obtain ⟨_, h2, _, f, hf, hfn, hfc⟩ := h.file y (List.mem_of_getElem? hy)
    have h3 := hp.2.1 (i - 1) y (by omega) hy
    rw [e1, e2, cutM_whole hr hf hfn (by rw [hfc]; omega)]
set_option maxRecDepth 100000 in
set_option maxHeartbeats 8000000 in
theorem take_any (G : GoodD) (x : Nat) (a : Addr) (F : Nat → Prop) (s : St) (w : World) (l : List Sg) (A : Option Addr) (n cap : Nat) (hd : G.D w a F s) (hfit : Fit s) (hoff : s.off = false) (hfu : s.fuse = -1) (ht : TabF (fun k => F k ∨ k = x) w) (hx : ¬ F x)
    (hw : WalM w x a 0 0 0) (h : TkArg w x F s l A n cap) : Calls Tryz.prog 29 #[.pointer (some ⟨x, 0, none⟩), .slice A n cap] w (TkRet G x a F s l w) := by
  obtain ⟨i0, hi0, hz0, hz1, hz2⟩ := info_parts infoR
  have H := Lib.hid h
  have Hd := Lib.hid hd
  have Hfit := Lib.hid hfit
  have Hst := Lib.hid (And.intro hoff hfu)
  have Ht := Lib.hid ht
  have Hx := Lib.hid hx
  have Hw := Lib.hid hw
  have hn6 : n ≤ 1000000 := h.most
  have hxl : x < w.heap.size := Holds.lt hw
  have Hxl := Lib.hid hxl
  have H0 : Hid (w.ownsRow w.heap.size 28 5 (.slice none 0 0) 0 (rcC (recsJ l 0))) := Lib.hid (World.ownsRow_nil _ _ _ _)
  have Hw0 : Hid (WalM w x a (lastN l 0) 0 (lastG l 0)) := Lib.hid (by
    have e : lastN l 0 = 0 ∧ lastG l 0 = 0 := by unfold lastN lastG; constructor <;> split <;> rfl
    rw [e.1, e.2]; exact hw)
  clear h hd hfit hoff hfu ht hx hw hxl
  go_enter Tryz.func29, Tryz.ntmps29
  go_wp2
  go_loopw [6, 12] (fun lv iv wr => ∃ (i : Nat) (B : Option Addr) (m c : Nat), i ≤ n ∧ iv = .int .i64 i ∧ lv = .slice B m c ∧ m = (recsJ l i).length ∧ TkPre l i ∧ wr.ownsRow w.heap.size 28 5 (.slice B m c) m (rcC (recsJ l i)) ∧ WalM wr x a (lastN l i) i (lastG l i) ∧ Only (fun k => k = x) w wr) (fun _ iv _ => n - (intOf iv).toNat)
  case atStart => exact ⟨0, none, 0, 0, Nat.zero_le _, rfl, rfl, rfl, ⟨Nat.zero_le _, fun k x hk => by omega, fun k x y hk => by omega⟩, H0.out, Hw0.out, Only.refl _ _⟩
  case round =>
    clear H0 Hw0
    obtain ⟨i, B, m, c, hi, rfl, rfl, hm, hpre, hown, hwal, hon⟩ := hrel
    have Hpre := Lib.hid hpre
    have Hown := Lib.hid hown
    have Hwal := Lib.hid hwal
    have Hon := Lib.hid hon
    have Hm := Lib.hid hm
    clear hpre hown hwal hon hm
    by_cases hlt : i < n
    · have hltz : (i : Int) < (n : Int) := by omega
      obtain ⟨g, hg⟩ : ∃ g, l[i]? = some g := ⟨_, List.getElem?_eq_getElem (by rw [H.out.len]; exact hlt)⟩
      obtain ⟨b, off, rfl, hbl, c0, c1, c2, c3, c4⟩ := row_sg H.out.row hg
      have hbx : b ≠ x := (H.out.far b off rfl).2
      have d0 := (Hon.out.cell (p := ⟨b, off + i * 5, none⟩) hbl hbx).trans c0
      have d1 := (Hon.out.cell (p := ⟨b, off + i * 5 + 1, none⟩) hbl hbx).trans c1
      have d2 := (Hon.out.cell (p := ⟨b, off + i * 5 + 2, none⟩) hbl hbx).trans c2
      have d3 := (Hon.out.cell (p := ⟨b, off + i * 5 + 3, none⟩) hbl hbx).trans c3
      have d4 := (Hon.out.cell (p := ⟨b, off + i * 5 + 4, none⟩) hbl hbx).trans c4
      have Hg := Lib.hid hg
      clear c0 c1 c2 c3 c4 hg hbl hbx
      obtain ⟨w1, hw1⟩ : ∃ w1, w1 = wr.alloc (.cells #[.int .i64 (g.n : Nat), .bool g.beg, .slice g.A g.recs.length g.cap, .int .i64 (g.good : Nat), .int .i64 (g.c.length : Nat)] 88) := ⟨_, rfl⟩
      have B1 : Hid (Below wr.heap.size wr w1) := Lib.hid (by rw [hw1]; exact (Below.refl _ _).alloc (Nat.le_refl _) _)
      have k0 : w1.cell? ⟨wr.heap.size, 0, none⟩ = some (.int .i64 (g.n : Nat)) ∧ w1.cell? ⟨wr.heap.size, 2, none⟩ = some (.slice g.A g.recs.length g.cap) ∧ w1.cell? ⟨wr.heap.size, 3, none⟩ = some (.int .i64 (g.good : Nat)) ∧ w1.cell? ⟨wr.heap.size, 4, none⟩ = some (.int .i64 (g.c.length : Nat)) := by rw [hw1]; exact ⟨by simp, by simp, by simp, by simp⟩
      have hbl1 : wr.heap.size < w1.heap.size := by rw [hw1]; simp
      have K := Lib.hid k0
      have Hbl1 := Lib.hid hbl1
      have Hw1 := Lib.hid hw1
      have W1 := Lib.hid (Hwal.out.only (F := fun _ => False) (Only.of_below B1.out (fun i hi => .inr hi)) id)
      clear k0 hbl1 hw1
      go_wp2_with fail
      rw [← Hw1.out]
      have hk := K.out
      obtain ⟨k0, k2, k3, k4⟩ := hk
      obtain ⟨e0, e1, e2, e3, f1, f2, f3⟩ := W1.out.cells
      by_cases hi0' : i = 0
      · have Hi0 := Lib.hid hi0'
        have hd0 : ¬ (0 : Int) < (i : Int) := by omega
        have hdd : decide (0 < i) = false := decide_eq_false (by omega)
        clear hi0'
        have Hcon : Hid (i = 0 ∨ ∀ y, l[i - 1]? = some y → g.n = y.n + 1) := Lib.hid (.inl Hi0.out)
        go_quiet (fail)
        clear k0 k2 k3 k4 e0 e1 e2 e3 f1 f2 f3
        obtain ⟨w2, hw2⟩ : ∃ w2, w2 = w1.drewN nq := ⟨_, rfl⟩
        rw [← hw2]
        have B2 : Hid (Below wr.heap.size wr w2) := Lib.hid (by rw [hw2]; exact below_drewN B1.out nq)
        have W2 : Hid (WalM w2 x a (lastN l i) i (lastG l i)) := Lib.hid (by rw [hw2]; exact W1.out)
        have hk : w2.cell? ⟨wr.heap.size, 0, none⟩ = some (.int .i64 (g.n : Nat)) ∧ w2.cell? ⟨wr.heap.size, 2, none⟩ = some (.slice g.A g.recs.length g.cap) ∧ w2.cell? ⟨wr.heap.size, 3, none⟩ = some (.int .i64 (g.good : Nat)) ∧ w2.cell? ⟨wr.heap.size, 4, none⟩ = some (.int .i64 (g.c.length : Nat)) := by rw [hw2]; exact K.out
        have hbl2 : wr.heap.size < w2.heap.size := by rw [hw2]; exact Hbl1.out
        have K2 := Lib.hid hk
        have Hbl2 := Lib.hid hbl2
        obtain ⟨k0, k2, k3, k4⟩ := hk
        have Own2 := Lib.hid (own_below Hown.out B2.out)
        have Hro : Hid (RowAt w2 g.A (rcC g.recs)) := Lib.hid (rowR_below (row_only (H.out.recs g (List.mem_of_getElem? Hg.out)).1 Hon.out (fun b off e h0 => (H.out.recs g (List.mem_of_getElem? Hg.out)).2 b off e (by rw [rcC_length] at h0; omega))) B2.out)
        have Htot : Hid (m + g.recs.length ≤ 1000000000) := Lib.hid (by
          have h1 := totR_take l Hg.out
          have h2 := H.out.tot
          have h3 := recsJ_len l i
          have := Hm.out
          omega)
        have Hbs2 : Hid (w.heap.size ≤ w2.heap.size) := Lib.hid (Nat.le_trans Hon.out.size B2.out.size)
        clear hw2 hbl2 W1 K Hbl1 Hw1
        go_wp2_with (at_builtin; refine wpList_join rfl (.tmp 38) (.tmp 40) 25 rfl w.heap.size 28 i0 _ 5 48 Tryz.underlying25 hi0 hz0 hz1 hz2 rfl (by omega) B m c (rcC (recsJ l i)) rfl Own2.out g.A g.recs.length g.cap (rcC g.recs) rfl Hro.out (rcC_length _) (rcC_one' _) Htot.out (by omega) Hbs2.out ?_; intro A3 c3 w3 hown3 ho3 hn3; have O3 := Lib.hid hown3; have P3 := Lib.hid ho3; have N3 := Lib.hid hn3; clear hown3 ho3 hn3)
        have Hne : Hid (∀ j, (Value.slice B m c).ownBlock = some j → w.heap.size ≤ j ∧ j < wr.heap.size) := Lib.hid (fun j hj => World.ownsRow.lt Hown.out j hj)
        have W3 := Lib.hid (W2.out.only P3.out (fun e => by have := (Hne.out x e).1; have := Hxl.out; omega))
        have hk3 : w3.cell? ⟨wr.heap.size, 0, none⟩ = some (.int .i64 (g.n : Nat)) ∧ w3.cell? ⟨wr.heap.size, 3, none⟩ = some (.int .i64 (g.good : Nat)) ∧ w3.cell? ⟨wr.heap.size, 4, none⟩ = some (.int .i64 (g.c.length : Nat)) := by
          have hne : ¬ (Value.slice B m c).ownBlock = some wr.heap.size := fun e => by have := (Hne.out _ e).2; omega
          exact ⟨(P3.out.cell (p := ⟨wr.heap.size, 0, none⟩) Hbl2.out hne).trans k0, (P3.out.cell (p := ⟨wr.heap.size, 3, none⟩) Hbl2.out hne).trans k3, (P3.out.cell (p := ⟨wr.heap.size, 4, none⟩) Hbl2.out hne).trans k4⟩
        have K3 := Lib.hid hk3
        clear k0 k2 k3 k4 Own2 Hro Htot Hbs2 W2 K2
        obtain ⟨k0, k3, k4⟩ := hk3
        obtain ⟨e0, e1, e2, e3, f1, f2, f3⟩ := W3.out.cells
        go_wp2_with fail
        go_region
        change Exit.then _ _ Exit.normal _ ((set3 w3 x g.n (i + 1) g.good).drew)
        obtain ⟨w4, hw4⟩ : ∃ w4, w4 = (set3 w3 x g.n (i + 1) g.good).drew := ⟨_, rfl⟩
        rw [← hw4]
        have W4 : Hid (WalM w4 x a g.n (i + 1) g.good) := Lib.hid (by rw [hw4]; exact set3_wal W3.out _ _ _)
        have P4 : Hid (Only (fun k => k = x) w3 w4) := Lib.hid (by rw [hw4]; exact (set3_only (F := fun k => k = x) (Only.refl _ _) (.inl rfl) _ _ _).drew)
        have On4 : Hid (Only (fun k => k = x) w w4) := Lib.hid (((Hon.out.below_new B2.out).then P3.out (fun j hj => .inr (Hne.out j hj).1)).then P4.out (fun j hj => .inl hj))
        have Own4 := Lib.hid (own_only O3.out P4.out (fun j hj e => by have := (World.ownsRow.lt O3.out j e).1; have := Hxl.out; omega))
        have hbx : wr.heap.size ≠ x := by have := Hxl.out; have := Hon.out.size; omega
        have hbl3 : wr.heap.size < w3.heap.size := Nat.lt_of_lt_of_le Hbl2.out P3.out.size
        have hk4 : w4.cell? ⟨wr.heap.size, 0, none⟩ = some (.int .i64 (g.n : Nat)) ∧ w4.cell? ⟨wr.heap.size, 3, none⟩ = some (.int .i64 (g.good : Nat)) ∧ w4.cell? ⟨wr.heap.size, 4, none⟩ = some (.int .i64 (g.c.length : Nat)) :=
          ⟨(P4.out.cell (p := ⟨wr.heap.size, 0, none⟩) hbl3 hbx).trans k0, (P4.out.cell (p := ⟨wr.heap.size, 3, none⟩) hbl3 hbx).trans k3, (P4.out.cell (p := ⟨wr.heap.size, 4, none⟩) hbl3 hbx).trans k4⟩
        have K4 := Lib.hid hk4
        have Hbl4 : Hid (wr.heap.size < w4.heap.size) := Lib.hid (Nat.lt_of_lt_of_le hbl3 P4.out.size)
        have Hla : Hid (lastN l (i + 1) = g.n ∧ lastG l (i + 1) = g.good) := Lib.hid (lastN_at (by rw [Nat.add_sub_cancel]; exact Hg.out) (by omega))
        have Hrj := Lib.hid (recsJ_next Hg.out)
        clear hw4 k0 k3 k4 e0 e1 e2 e3 f1 f2 f3 K3 W3 hbx hbl3 O3 P3 N3 P4 Hne Hown B2 Hwal
        obtain ⟨k0, k3, k4⟩ := hk4
        by_cases htn : g.good < g.c.length
        · have htz : (g.good : Int) < (g.c.length : Int) := by omega
          have Htk := Lib.hid (Hpre.out.torn Hg.out Hcon.out htn)
          have D4 := Lib.hid (G.stay Hd.out On4.out.size (fun k hk => On4.out.block k (G.foot Hd.out k hk) (fun e => Hx.out (e ▸ hk))))
          have T4 : Hid (TabF (fun k => F k ∨ k = x) w4) := Lib.hid (Ht.out.only (On4.out.mono (fun k e => .inr e)) (fun k hk => .inl hk))
          obtain ⟨hgn, hgl, hgc, f, hf, hfn, hfc⟩ := H.out.file g (List.mem_of_getElem? Hg.out)
          have HF := Lib.hid (fun (W : World) (hb : Below w4.heap.size w4 W) => fileOf_any g.n W hgn (T4.out.below hb).here)
          have HC := Lib.hid (fun (W : World) (hb : Below w4.heap.size w4 W) => G.cut (fileL g.n) (g.good : Int) a F s W (by rw [fileL_len]; decide) (G.below D4.out hb) Hfit.out (by unfold I64; omega))
          rw [cut_ok (j := i + 1) (G.rise Hd.out) Hst.out.1 Hst.out.2 hf hfn (by rw [hfc]; exact hgl) (by omega)] at HC
          simp only at HC
          have hg9 : (g.good : Int) ≤ 1000000000 := by omega
          have e0 := W4.out.cells.1
          have HFl : Hid (∀ k, F k → k < w.heap.size) := Lib.hid (G.foot Hd.out)
          have Hsz : Hid (w.heap.size ≤ wr.heap.size) := Lib.hid Hon.out.size
          have HnF : Hid (¬ F wr.heap.size) := Lib.hid (fun h => by have := HFl.out _ h; have := Hsz.out; omega)
          clear htn hgn hgl hgc hf hfn hfc
          go_wp2_with fail
          go_region_held3 (fun W => W.cell? ⟨wr.heap.size, 0, none⟩ = some (.int .i64 (g.n : Nat)) ∧ W.cell? ⟨wr.heap.size, 3, none⟩ = some (.int .i64 (g.good : Nat)) ∧ W.cell? ⟨x, 0, none⟩ = some (.pointer (some a)))
            (first
              | exact ⟨k0, k3, e0⟩
              | exact ⟨(Ho7.out.cell (p := ⟨wr.heap.size, 0, none⟩) (Nat.lt_of_lt_of_le Hbl4.out Hb6.out.size) HnF.out).trans ((Hb6.out.cell (p := ⟨wr.heap.size, 0, none⟩) Hbl4.out).trans k0), (Ho7.out.cell (p := ⟨wr.heap.size, 3, none⟩) (Nat.lt_of_lt_of_le Hbl4.out Hb6.out.size) HnF.out).trans ((Hb6.out.cell (p := ⟨wr.heap.size, 3, none⟩) Hbl4.out).trans k3), (Ho7.out.cell (p := ⟨x, 0, none⟩) (Nat.lt_of_lt_of_le (Nat.lt_of_lt_of_le Hxl.out On4.out.size) Hb6.out.size) Hx.out).trans ((Hb6.out.cell (p := ⟨x, 0, none⟩) (Nat.lt_of_lt_of_le Hxl.out On4.out.size)).trans e0)⟩
              | exact ⟨(Hb6.out.cell (p := ⟨wr.heap.size, 0, none⟩) Hbl4.out).trans k0, (Hb6.out.cell (p := ⟨wr.heap.size, 3, none⟩) Hbl4.out).trans k3, (Hb6.out.cell (p := ⟨x, 0, none⟩) (Nat.lt_of_lt_of_le Hxl.out On4.out.size)).trans e0⟩
              | go_keep)
            (first
              | (go_at_call 34; refine (HF.out _ ((Below.refl _ w4).drew)).mono ?_; rintro e w6 ⟨rfl, hb6⟩; have Hb6 : Hid (Below w4.heap.size w4 w6) := Lib.hid ((Below.refl _ w4).drew.trans hb6); clear hb6)
              | (go_at_call 49; refine (HC.out _ Hb6.out).mono ?_; rintro e w7 ⟨rfl, F7, hd7, ho7, hg7⟩; have Ho7 := Lib.hid ho7; have Hd7 := Lib.hid hd7; have Hg7 := Lib.hid hg7; clear hd7 ho7 hg7)
              | fail "no arm")
          have e0 : w7.cell? ⟨x, 0, none⟩ = some (.pointer (some a)) := (Ho7.out.cell (p := ⟨x, 0, none⟩) (Nat.lt_of_lt_of_le (Nat.lt_of_lt_of_le Hxl.out On4.out.size) Hb6.out.size) Hx.out).trans ((Hb6.out.cell (p := ⟨x, 0, none⟩) (Nat.lt_of_lt_of_le Hxl.out On4.out.size)).trans W4.out.cells.1)
          have On7 : Hid (Only (fun k => F k ∨ k = x) w w7) := Lib.hid (((On4.out.mono (fun k e => .inr e)).below_new Hb6.out).then Ho7.out (fun j hj => .inl (.inl hj)))
          have Own7 := Lib.hid (own_only (own_below Own4.out Hb6.out) Ho7.out (fun j hj e => by have := (World.ownsRow.lt Own4.out j e).1; have := HFl.out j hj; omega))
          have W7 := Lib.hid ((W4.out.only (F := fun _ => False) (Only.of_below Hb6.out (fun i hi => .inr hi)) id).only Ho7.out Hx.out)
          have Nf7 : Hid (∀ k, (Value.slice A3 (m + g.recs.length) c3).ownBlock = some k → ¬ F7 k) := Lib.hid (fun k hk h => by
            have h1 := World.ownsRow.lt Own4.out k hk
            rcases Hg7.out k h with h2 | h2
            · have := HFl.out k h2; omega
            · have := Hb6.out.size; omega)
          have Hw46 : Hid (w.heap.size ≤ w6.heap.size) := Lib.hid (Nat.le_trans On4.out.size Hb6.out.size)
          have Nx7 : Hid (¬ F7 x) := Lib.hid (fun h => (Hg7.out x h).elim Hx.out (fun h => by have := Hxl.out; have := Hw46.out; omega))
          have Hg7' : Hid (∀ k, F7 k → F k ∨ w.heap.size ≤ k) := Lib.hid (fun k hk => (Hg7.out k hk).imp id (fun h => Nat.le_trans Hw46.out h))
          have Tb7 : Hid (TabF F7 w7) := Lib.hid (((Ht.out.only On7.out (F' := F7) (fun k hk => (Hg7'.out k hk).imp .inl id))))
          have Hml : Hid (m + g.recs.length ≤ 1000000000) := Lib.hid (by
            have h1 := totR_take l Hg.out
            have h2 := H.out.tot
            have h3 := recsJ_len l i
            have := Hm.out
            omega)
          have HRm := Lib.hid (fun (W : World) (hb : Below w7.heap.size w7 W) => removeAll_any G (l.drop (i + 1)) (partA b off (i + 1) cap) (n - (i + 1)) (cap - (i + 1)) a F7 { s with files := cutM (i + 1) g.n g.good s.files } W (G.below Hd7.out hb) (fit_cut Hfit.out _ _ _) Hst.out.1 Hst.out.2 (Tb7.out.below hb) (by rw [List.length_drop, H.out.len]) (by omega)
            (by rw [partA_eq]; exact row_part (RowAt.below (row_only H.out.row On7.out (fun b' off' e h0 => by have := H.out.far b' off' e; exact fun h => h.elim this.1 this.2)) hb (Nat.le_refl _)) (i + 1) cap (by rw [H.out.len]; exact H.out.cap))
            (by rw [partA_eq]; exact apart_part (fun h => by
              obtain ⟨b', off', e, hbl, _⟩ := row_sg H.out.row Hg.out
              injection e with e
              injection e with e1 _
              subst e1
              rcases Hg7.out b h with h2 | h2
              · exact (H.out.far b off rfl).1 h2
              · have := Hw46.out; omega))
            (H.out.diff.sublist (List.drop_sublist _ _)) (fun y hy => by
              obtain ⟨h1, _, _, f, hf, hfn, _⟩ := H.out.file y (List.mem_of_mem_drop hy)
              exact ⟨h1, cut_names ⟨f, hf, hfn⟩⟩))
          have Hlim : Hid (i + 1 ≤ n ∧ n ≤ cap) := Lib.hid ⟨by omega, H.out.cap⟩
          have hsl := slice_from b off n cap (i + 1) (IntKind.i64.wrap ((i : Int) + 1)) (by rw [IntKind.wrap_i64]; omega) (by omega)
          have Hxl7 : Hid (x < w7.heap.size) := Lib.hid (Nat.lt_of_lt_of_le Hxl.out On7.out.size)
          clear HC HF k0 k3 k4 d0 d1 d2 d3 d4
          generalize Value.slice (some { block := b, off := off }) n cap = V at hsl ⊢
          go_wp2_with fail
          go_region_held3 (fun W => W.cell? ⟨x, 0, none⟩ = some (.pointer (some a)))
            (first
              | exact e0
              | exact (Ho8.out.cell (p := ⟨x, 0, none⟩) Hxl7.out Nx7.out).trans e0
              | go_keep)
            (first
              | (go_at_call 28; refine (HRm.out _ ((Below.refl _ w7).drew)).mono ?_; rintro e w8 ⟨rfl, F8, hd8, ho8, hg8⟩; have Ho8 := Lib.hid ho8; have Hd8 := Lib.hid hd8; have Hg8 := Lib.hid hg8; clear hd8 ho8 hg8)
              | (go_at_call 28; trace_state; fail "no arm"))
          go_wp2
          exact bodyPost_ret (v := .tuple #[.slice A3 (m + g.recs.length) c3, .int .i64 0]) (by simp [results, Tryz.results29, go_sem]) rfl
            (tk_end (F7 := F7) (j := i + 1) Htk.out On7.out.drew (by rw [Hrj.out, rcC_append]; exact Own7.out.drew) (by rw [Hrj.out, List.length_append, ← Hm.out]) Nf7.out (by rw [Hla.out.1, Hla.out.2]; exact W7.out) Nx7.out Hg7'.out Hml.out
              (by unfold tkS; rw [Hla.out.1, Hla.out.2]; exact Hd8.out) Ho8.out Hg8.out)
        · have htz : ¬ (g.good : Int) < (g.c.length : Int) := by omega
          have Hpn := Lib.hid (Hpre.out.next Hg.out Hcon.out htn)
          clear htn
          go_wp2
          go_roundw
          case rel => exact ⟨i + 1, A3, m + g.recs.length, c3, by omega, by go_num, rfl, by rw [Hrj.out, List.length_append, ← Hm.out], Hpn.out, by rw [Hrj.out, rcC_append]; exact Own4.out, by rw [Hla.out.1, Hla.out.2]; exact W4.out, On4.out⟩
          case measure => simp [intOf]; omega
      · obtain ⟨y, hy⟩ : ∃ y, l[i - 1]? = some y := ⟨_, List.getElem?_eq_getElem (by have := Hpre.out.1; omega)⟩
        obtain ⟨ey1, ey2⟩ := lastN_at hy (by omega)
        have hym := (H.out.file y (List.mem_of_getElem? hy)).1
        have hla9 : lastN l i ≤ 999999999999 := by rw [ey1]; exact hym
        have hd0 : (0 : Int) < (i : Int) := by omega
        have hdd : decide (0 < i) = true := decide_eq_true (by omega)
        have hwla : IntKind.i64.wrap ((lastN l i : Int) + 1) = ((lastN l i : Int) + 1) := by rw [IntKind.wrap_i64]; omega
        have Hy := Lib.hid hy
        have Hey := Lib.hid ey1
        clear hy ey1 ey2 hym
        by_cases hcon : g.n = lastN l i + 1
        · have Hcon : Hid (i = 0 ∨ ∀ y, l[i - 1]? = some y → g.n = y.n + 1) := Lib.hid (.inr fun y' hy' => by
            have e := hy'.symm.trans Hy.out
            injection e with e
            rw [e, ← Hey.out]; exact hcon)
          have hc1 : ((g.n : Int) != (lastN l i : Int) + 1) = false := by rw [bne_eq_false_iff_eq]; omega
          have hc2 : ((g.n : Int) == (lastN l i : Int) + 1) = true := by rw [beq_iff_eq]; omega
          clear hi0' hcon
          go_quiet (fail)
          clear k0 k2 k3 k4 e0 e1 e2 e3 f1 f2 f3 hc1 hc2 hwla
          obtain ⟨w2, hw2⟩ : ∃ w2, w2 = w1.drewN nq := ⟨_, rfl⟩
          rw [← hw2]
          have B2 : Hid (Below wr.heap.size wr w2) := Lib.hid (by rw [hw2]; exact below_drewN B1.out nq)
          have W2 : Hid (WalM w2 x a (lastN l i) i (lastG l i)) := Lib.hid (by rw [hw2]; exact W1.out)
          have hk : w2.cell? ⟨wr.heap.size, 0, none⟩ = some (.int .i64 (g.n : Nat)) ∧ w2.cell? ⟨wr.heap.size, 2, none⟩ = some (.slice g.A g.recs.length g.cap) ∧ w2.cell? ⟨wr.heap.size, 3, none⟩ = some (.int .i64 (g.good : Nat)) ∧ w2.cell? ⟨wr.heap.size, 4, none⟩ = some (.int .i64 (g.c.length : Nat)) := by rw [hw2]; exact K.out
          have hbl2 : wr.heap.size < w2.heap.size := by rw [hw2]; exact Hbl1.out
          have K2 := Lib.hid hk
          have Hbl2 := Lib.hid hbl2
          obtain ⟨k0, k2, k3, k4⟩ := hk
          have Own2 := Lib.hid (own_below Hown.out B2.out)
          have Hro : Hid (RowAt w2 g.A (rcC g.recs)) := Lib.hid (rowR_below (row_only (H.out.recs g (List.mem_of_getElem? Hg.out)).1 Hon.out (fun b off e h0 => (H.out.recs g (List.mem_of_getElem? Hg.out)).2 b off e (by rw [rcC_length] at h0; omega))) B2.out)
          have Htot : Hid (m + g.recs.length ≤ 1000000000) := Lib.hid (by
            have h1 := totR_take l Hg.out
            have h2 := H.out.tot
            have h3 := recsJ_len l i
            have := Hm.out
            omega)
          have Hbs2 : Hid (w.heap.size ≤ w2.heap.size) := Lib.hid (Nat.le_trans Hon.out.size B2.out.size)
          clear hw2 hbl2 W1 K Hbl1 Hw1
          go_wp2_with (at_builtin; refine wpList_join rfl (.tmp 38) (.tmp 40) 25 rfl w.heap.size 28 i0 _ 5 48 Tryz.underlying25 hi0 hz0 hz1 hz2 rfl (by omega) B m c (rcC (recsJ l i)) rfl Own2.out g.A g.recs.length g.cap (rcC g.recs) rfl Hro.out (rcC_length _) (rcC_one' _) Htot.out (by omega) Hbs2.out ?_; intro A3 c3 w3 hown3 ho3 hn3; have O3 := Lib.hid hown3; have P3 := Lib.hid ho3; have N3 := Lib.hid hn3; clear hown3 ho3 hn3)
          have Hne : Hid (∀ j, (Value.slice B m c).ownBlock = some j → w.heap.size ≤ j ∧ j < wr.heap.size) := Lib.hid (fun j hj => World.ownsRow.lt Hown.out j hj)
          have W3 := Lib.hid (W2.out.only P3.out (fun e => by have := (Hne.out x e).1; have := Hxl.out; omega))
          have hk3 : w3.cell? ⟨wr.heap.size, 0, none⟩ = some (.int .i64 (g.n : Nat)) ∧ w3.cell? ⟨wr.heap.size, 3, none⟩ = some (.int .i64 (g.good : Nat)) ∧ w3.cell? ⟨wr.heap.size, 4, none⟩ = some (.int .i64 (g.c.length : Nat)) := by
            have hne : ¬ (Value.slice B m c).ownBlock = some wr.heap.size := fun e => by have := (Hne.out _ e).2; omega
            exact ⟨(P3.out.cell (p := ⟨wr.heap.size, 0, none⟩) Hbl2.out hne).trans k0, (P3.out.cell (p := ⟨wr.heap.size, 3, none⟩) Hbl2.out hne).trans k3, (P3.out.cell (p := ⟨wr.heap.size, 4, none⟩) Hbl2.out hne).trans k4⟩
          have K3 := Lib.hid hk3
          clear k0 k2 k3 k4 Own2 Hro Htot Hbs2 W2 K2
          obtain ⟨k0, k3, k4⟩ := hk3
          obtain ⟨e0, e1, e2, e3, f1, f2, f3⟩ := W3.out.cells
          go_wp2_with fail
          go_region
          change Exit.then _ _ Exit.normal _ ((set3 w3 x g.n (i + 1) g.good).drew)
          obtain ⟨w4, hw4⟩ : ∃ w4, w4 = (set3 w3 x g.n (i + 1) g.good).drew := ⟨_, rfl⟩
          rw [← hw4]
          have W4 : Hid (WalM w4 x a g.n (i + 1) g.good) := Lib.hid (by rw [hw4]; exact set3_wal W3.out _ _ _)
          have P4 : Hid (Only (fun k => k = x) w3 w4) := Lib.hid (by rw [hw4]; exact (set3_only (F := fun k => k = x) (Only.refl _ _) (.inl rfl) _ _ _).drew)
          have On4 : Hid (Only (fun k => k = x) w w4) := Lib.hid (((Hon.out.below_new B2.out).then P3.out (fun j hj => .inr (Hne.out j hj).1)).then P4.out (fun j hj => .inl hj))
          have Own4 := Lib.hid (own_only O3.out P4.out (fun j hj e => by have := (World.ownsRow.lt O3.out j e).1; have := Hxl.out; omega))
          have hbx : wr.heap.size ≠ x := by have := Hxl.out; have := Hon.out.size; omega
          have hbl3 : wr.heap.size < w3.heap.size := Nat.lt_of_lt_of_le Hbl2.out P3.out.size
          have hk4 : w4.cell? ⟨wr.heap.size, 0, none⟩ = some (.int .i64 (g.n : Nat)) ∧ w4.cell? ⟨wr.heap.size, 3, none⟩ = some (.int .i64 (g.good : Nat)) ∧ w4.cell? ⟨wr.heap.size, 4, none⟩ = some (.int .i64 (g.c.length : Nat)) :=
            ⟨(P4.out.cell (p := ⟨wr.heap.size, 0, none⟩) hbl3 hbx).trans k0, (P4.out.cell (p := ⟨wr.heap.size, 3, none⟩) hbl3 hbx).trans k3, (P4.out.cell (p := ⟨wr.heap.size, 4, none⟩) hbl3 hbx).trans k4⟩
          have K4 := Lib.hid hk4
          have Hbl4 : Hid (wr.heap.size < w4.heap.size) := Lib.hid (Nat.lt_of_lt_of_le hbl3 P4.out.size)
          have Hla : Hid (lastN l (i + 1) = g.n ∧ lastG l (i + 1) = g.good) := Lib.hid (lastN_at (by rw [Nat.add_sub_cancel]; exact Hg.out) (by omega))
          have Hrj := Lib.hid (recsJ_next Hg.out)
          clear hw4 k0 k3 k4 e0 e1 e2 e3 f1 f2 f3 K3 W3 hbx hbl3 O3 P3 N3 P4 Hne Hown B2 Hwal
          obtain ⟨k0, k3, k4⟩ := hk4
          by_cases htn : g.good < g.c.length
          · have htz : (g.good : Int) < (g.c.length : Int) := by omega
            have Htk := Lib.hid (Hpre.out.torn Hg.out Hcon.out htn)
            have D4 := Lib.hid (G.stay Hd.out On4.out.size (fun k hk => On4.out.block k (G.foot Hd.out k hk) (fun e => Hx.out (e ▸ hk))))
            have T4 : Hid (TabF (fun k => F k ∨ k = x) w4) := Lib.hid (Ht.out.only (On4.out.mono (fun k e => .inr e)) (fun k hk => .inl hk))
            obtain ⟨hgn, hgl, hgc, f, hf, hfn, hfc⟩ := H.out.file g (List.mem_of_getElem? Hg.out)
            have HF := Lib.hid (fun (W : World) (hb : Below w4.heap.size w4 W) => fileOf_any g.n W hgn (T4.out.below hb).here)
            have HC := Lib.hid (fun (W : World) (hb : Below w4.heap.size w4 W) => G.cut (fileL g.n) (g.good : Int) a F s W (by rw [fileL_len]; decide) (G.below D4.out hb) Hfit.out (by unfold I64; omega))
            rw [cut_ok (j := i + 1) (G.rise Hd.out) Hst.out.1 Hst.out.2 hf hfn (by rw [hfc]; exact hgl) (by omega)] at HC
            simp only at HC
            have hg9 : (g.good : Int) ≤ 1000000000 := by omega
            have e0 := W4.out.cells.1
            have HFl : Hid (∀ k, F k → k < w.heap.size) := Lib.hid (G.foot Hd.out)
            have Hsz : Hid (w.heap.size ≤ wr.heap.size) := Lib.hid Hon.out.size
            have HnF : Hid (¬ F wr.heap.size) := Lib.hid (fun h => by have := HFl.out _ h; have := Hsz.out; omega)
            clear htn hgn hgl hgc hf hfn hfc
            go_wp2_with fail
            go_region_held3 (fun W => W.cell? ⟨wr.heap.size, 0, none⟩ = some (.int .i64 (g.n : Nat)) ∧ W.cell? ⟨wr.heap.size, 3, none⟩ = some (.int .i64 (g.good : Nat)) ∧ W.cell? ⟨x, 0, none⟩ = some (.pointer (some a)))
              (first
                | exact ⟨k0, k3, e0⟩
                | exact ⟨(Ho7.out.cell (p := ⟨wr.heap.size, 0, none⟩) (Nat.lt_of_lt_of_le Hbl4.out Hb6.out.size) HnF.out).trans ((Hb6.out.cell (p := ⟨wr.heap.size, 0, none⟩) Hbl4.out).trans k0), (Ho7.out.cell (p := ⟨wr.heap.size, 3, none⟩) (Nat.lt_of_lt_of_le Hbl4.out Hb6.out.size) HnF.out).trans ((Hb6.out.cell (p := ⟨wr.heap.size, 3, none⟩) Hbl4.out).trans k3), (Ho7.out.cell (p := ⟨x, 0, none⟩) (Nat.lt_of_lt_of_le (Nat.lt_of_lt_of_le Hxl.out On4.out.size) Hb6.out.size) Hx.out).trans ((Hb6.out.cell (p := ⟨x, 0, none⟩) (Nat.lt_of_lt_of_le Hxl.out On4.out.size)).trans e0)⟩
                | exact ⟨(Hb6.out.cell (p := ⟨wr.heap.size, 0, none⟩) Hbl4.out).trans k0, (Hb6.out.cell (p := ⟨wr.heap.size, 3, none⟩) Hbl4.out).trans k3, (Hb6.out.cell (p := ⟨x, 0, none⟩) (Nat.lt_of_lt_of_le Hxl.out On4.out.size)).trans e0⟩
                | go_keep)
              (first
                | (go_at_call 34; refine (HF.out _ ((Below.refl _ w4).drew)).mono ?_; rintro e w6 ⟨rfl, hb6⟩; have Hb6 : Hid (Below w4.heap.size w4 w6) := Lib.hid ((Below.refl _ w4).drew.trans hb6); clear hb6)
                | (go_at_call 49; refine (HC.out _ Hb6.out).mono ?_; rintro e w7 ⟨rfl, F7, hd7, ho7, hg7⟩; have Ho7 := Lib.hid ho7; have Hd7 := Lib.hid hd7; have Hg7 := Lib.hid hg7; clear hd7 ho7 hg7)
                | fail "no arm")
            have e0 : w7.cell? ⟨x, 0, none⟩ = some (.pointer (some a)) := (Ho7.out.cell (p := ⟨x, 0, none⟩) (Nat.lt_of_lt_of_le (Nat.lt_of_lt_of_le Hxl.out On4.out.size) Hb6.out.size) Hx.out).trans ((Hb6.out.cell (p := ⟨x, 0, none⟩) (Nat.lt_of_lt_of_le Hxl.out On4.out.size)).trans W4.out.cells.1)
            have On7 : Hid (Only (fun k => F k ∨ k = x) w w7) := Lib.hid (((On4.out.mono (fun k e => .inr e)).below_new Hb6.out).then Ho7.out (fun j hj => .inl (.inl hj)))
            have Own7 := Lib.hid (own_only (own_below Own4.out Hb6.out) Ho7.out (fun j hj e => by have := (World.ownsRow.lt Own4.out j e).1; have := HFl.out j hj; omega))
            have W7 := Lib.hid ((W4.out.only (F := fun _ => False) (Only.of_below Hb6.out (fun i hi => .inr hi)) id).only Ho7.out Hx.out)
            have Nf7 : Hid (∀ k, (Value.slice A3 (m + g.recs.length) c3).ownBlock = some k → ¬ F7 k) := Lib.hid (fun k hk h => by
              have h1 := World.ownsRow.lt Own4.out k hk
              rcases Hg7.out k h with h2 | h2
              · have := HFl.out k h2; omega
              · have := Hb6.out.size; omega)
            have Hw46 : Hid (w.heap.size ≤ w6.heap.size) := Lib.hid (Nat.le_trans On4.out.size Hb6.out.size)
            have Nx7 : Hid (¬ F7 x) := Lib.hid (fun h => (Hg7.out x h).elim Hx.out (fun h => by have := Hxl.out; have := Hw46.out; omega))
            have Hg7' : Hid (∀ k, F7 k → F k ∨ w.heap.size ≤ k) := Lib.hid (fun k hk => (Hg7.out k hk).imp id (fun h => Nat.le_trans Hw46.out h))
            have Tb7 : Hid (TabF F7 w7) := Lib.hid (((Ht.out.only On7.out (F' := F7) (fun k hk => (Hg7'.out k hk).imp .inl id))))
            have Hml : Hid (m + g.recs.length ≤ 1000000000) := Lib.hid (by
              have h1 := totR_take l Hg.out
              have h2 := H.out.tot
              have h3 := recsJ_len l i
              have := Hm.out
              omega)
            have HRm := Lib.hid (fun (W : World) (hb : Below w7.heap.size w7 W) => removeAll_any G (l.drop (i + 1)) (partA b off (i + 1) cap) (n - (i + 1)) (cap - (i + 1)) a F7 { s with files := cutM (i + 1) g.n g.good s.files } W (G.below Hd7.out hb) (fit_cut Hfit.out _ _ _) Hst.out.1 Hst.out.2 (Tb7.out.below hb) (by rw [List.length_drop, H.out.len]) (by omega)
              (by rw [partA_eq]; exact row_part (RowAt.below (row_only H.out.row On7.out (fun b' off' e h0 => by have := H.out.far b' off' e; exact fun h => h.elim this.1 this.2)) hb (Nat.le_refl _)) (i + 1) cap (by rw [H.out.len]; exact H.out.cap))
              (by rw [partA_eq]; exact apart_part (fun h => by
                obtain ⟨b', off', e, hbl, _⟩ := row_sg H.out.row Hg.out
                injection e with e
                injection e with e1 _
                subst e1
                rcases Hg7.out b h with h2 | h2
                · exact (H.out.far b off rfl).1 h2
                · have := Hw46.out; omega))
              (H.out.diff.sublist (List.drop_sublist _ _)) (fun y hy => by
                obtain ⟨h1, _, _, f, hf, hfn, _⟩ := H.out.file y (List.mem_of_mem_drop hy)
                exact ⟨h1, cut_names ⟨f, hf, hfn⟩⟩))
            have Hlim : Hid (i + 1 ≤ n ∧ n ≤ cap) := Lib.hid ⟨by omega, H.out.cap⟩
            have hsl := slice_from b off n cap (i + 1) (IntKind.i64.wrap ((i : Int) + 1)) (by rw [IntKind.wrap_i64]; omega) (by omega)
            have Hxl7 : Hid (x < w7.heap.size) := Lib.hid (Nat.lt_of_lt_of_le Hxl.out On7.out.size)
            clear HC HF k0 k3 k4 d0 d1 d2 d3 d4
            generalize Value.slice (some { block := b, off := off }) n cap = V at hsl ⊢
            go_wp2_with fail
            go_region_held3 (fun W => W.cell? ⟨x, 0, none⟩ = some (.pointer (some a)))
              (first
                | exact e0
                | exact (Ho8.out.cell (p := ⟨x, 0, none⟩) Hxl7.out Nx7.out).trans e0
                | go_keep)
              (first
                | (go_at_call 28; refine (HRm.out _ ((Below.refl _ w7).drew)).mono ?_; rintro e w8 ⟨rfl, F8, hd8, ho8, hg8⟩; have Ho8 := Lib.hid ho8; have Hd8 := Lib.hid hd8; have Hg8 := Lib.hid hg8; clear hd8 ho8 hg8)
                | (go_at_call 28; trace_state; fail "no arm"))
            go_wp2
            exact bodyPost_ret (v := .tuple #[.slice A3 (m + g.recs.length) c3, .int .i64 0]) (by simp [results, Tryz.results29, go_sem]) rfl
              (tk_end (F7 := F7) (j := i + 1) Htk.out On7.out.drew (by rw [Hrj.out, rcC_append]; exact Own7.out.drew) (by rw [Hrj.out, List.length_append, ← Hm.out]) Nf7.out (by rw [Hla.out.1, Hla.out.2]; exact W7.out) Nx7.out Hg7'.out Hml.out
                (by unfold tkS; rw [Hla.out.1, Hla.out.2]; exact Hd8.out) Ho8.out Hg8.out)
          · have htz : ¬ (g.good : Int) < (g.c.length : Int) := by omega
            have Hpn := Lib.hid (Hpre.out.next Hg.out Hcon.out htn)
            clear htn
            go_wp2
            go_roundw
            case rel => exact ⟨i + 1, A3, m + g.recs.length, c3, by omega, by go_num, rfl, by rw [Hrj.out, List.length_append, ← Hm.out], Hpn.out, by rw [Hrj.out, rcC_append]; exact Own4.out, by rw [Hla.out.1, Hla.out.2]; exact W4.out, On4.out⟩
            case measure => simp [intOf]; omega
        · have hc1 : ((g.n : Int) != (lastN l i : Int) + 1) = true := by rw [bne_iff_ne]; omega
          have hc2 : ((g.n : Int) == (lastN l i : Int) + 1) = false := by rw [beq_eq_false_iff_ne]; omega
          have Htk : Hid (TkOf l i) := Lib.hid (Hpre.out.stop (by omega) (fun y' g' hy' hg' => by
            have e := hy'.symm.trans Hy.out
            injection e with e
            have e' := hg'.symm.trans Hg.out
            injection e' with e'
            rw [e, e', ← Hey.out]; exact hcon))
          clear hi0' hcon
          go_quiet (fail)
          clear k0 k2 k3 k4 e1 e2 e3 f1 f2 f3 hc1 hc2 hwla
          obtain ⟨w2, hw2⟩ : ∃ w2, w2 = w1.drewN nq := ⟨_, rfl⟩
          rw [← hw2]
          have B2 : Hid (Below wr.heap.size wr w2) := Lib.hid (by rw [hw2]; exact below_drewN B1.out nq)
          have On2 : Hid (Only (fun k => k = x) w w2) := Lib.hid (Hon.out.below_new B2.out)
          have W2 := Lib.hid (Hwal.out.only (F := fun _ => False) (Only.of_below B2.out (fun i hi => .inr hi)) id)
          have D2 := Lib.hid (G.stay Hd.out On2.out.size (fun k hk => On2.out.block k (G.foot Hd.out k hk) (fun e => Hx.out (e ▸ hk))))
          have Own2 := Lib.hid (own_below Hown.out B2.out)
          have On7 : Hid (Only (fun k => F k ∨ k = x) w w2) := Lib.hid (On2.out.mono (fun k e => .inr e))
          have Tb2 : Hid (TabF F w2) := Lib.hid (Ht.out.only On7.out (F' := F) (fun k hk => .inl (.inl hk)))
          have e0 : w2.cell? ⟨x, 0, none⟩ = some (.pointer (some a)) := W2.out.cells.1
          have Hxl2 : Hid (x < w2.heap.size) := Lib.hid (Nat.lt_of_lt_of_le Hxl.out On2.out.size)
          have HRm := Lib.hid (fun (W : World) (hb : Below w2.heap.size w2 W) => removeAll_any G (l.drop i) (partA b off i cap) (n - i) (cap - i) a F s W (G.below D2.out hb) Hfit.out Hst.out.1 Hst.out.2 (Tb2.out.below hb) (by rw [List.length_drop, H.out.len]) (by omega)
            (by rw [partA_eq]; exact row_part (RowAt.below (row_only H.out.row On7.out (fun b' off' e h0 => by have := H.out.far b' off' e; exact fun h => h.elim this.1 this.2)) hb (Nat.le_refl _)) i cap (by rw [H.out.len]; exact H.out.cap))
            (by rw [partA_eq]; exact apart_part (H.out.far b off rfl).1)
            (H.out.diff.sublist (List.drop_sublist _ _)) (fun y hy => by
              obtain ⟨h1, _, _, f, hf, hfn, _⟩ := H.out.file y (List.mem_of_mem_drop hy)
              exact ⟨h1, f, hf, hfn⟩))
          have hsl := slice_from b off n cap i (i : Int) rfl (by omega)
          clear d0 d1 d2 d3 d4 hw2
          generalize Value.slice (some { block := b, off := off }) n cap = V at hsl ⊢
          go_wp2_with fail
          go_region_held3 (fun W => W.cell? ⟨x, 0, none⟩ = some (.pointer (some a)))
            (first
              | exact e0
              | exact (Ho8.out.cell (p := ⟨x, 0, none⟩) Hxl2.out Hx.out).trans e0
              | go_keep)
            (first
              | (go_at_call 28; refine (HRm.out _ ((Below.refl _ w2).drew)).mono ?_; rintro e w8 ⟨rfl, F8, hd8, ho8, hg8⟩; have Ho8 := Lib.hid ho8; have Hd8 := Lib.hid hd8; have Hg8 := Lib.hid hg8; clear hd8 ho8 hg8)
              | (go_at_call 28; trace_state; fail "no arm"))
          have Hmle : Hid (m ≤ 1000000000) := Lib.hid (by have h1 := totR_take l Hg.out; have h2 := H.out.tot; have h3 := recsJ_len l i; have := Hm.out; omega)
          go_wp2
          exact bodyPost_ret (v := .tuple #[.slice B m c, .int .i64 0]) (by simp [results, Tryz.results29, go_sem]) rfl
            (tk_end (F7 := F) (j := i) Htk.out On7.out.drew Own2.out.drew Hm.out.symm (fun k hk hF => by have := (World.ownsRow.lt Hown.out k hk).1; have := G.foot Hd.out k hF; omega) W2.out Hx.out (fun k hk => .inl hk) Hmle.out
              (by rw [tkS_whole (G.rise Hd.out) H.out Hpre.out]; exact Hd8.out) Ho8.out Hg8.out)
    · have hltz : ¬ (i : Int) < (n : Int) := by omega
      obtain rfl : i = n := by omega
      have Htk : Hid (TkOf l i) := Lib.hid (by
        have := Hpre.out
        rw [← H.out.len] at this ⊢
        exact this.done)
      have Hmle : Hid (m ≤ 1000000000) := Lib.hid (by
        have h2 := H.out.tot
        have h3 := recsJ_len l i
        rw [List.take_of_length_le (by rw [H.out.len]; exact Nat.le_refl _)] at h3
        have := Hm.out
        omega)
      have D2 := Lib.hid (G.stay Hd.out Hon.out.size (fun k hk => Hon.out.block k (G.foot Hd.out k hk) (fun e => Hx.out (e ▸ hk))))
      have Hend : Hid (TkRet G x a F s l w (.returned (.tuple #[.slice B m c, .int .i64 0])) wr) := Lib.hid (tk_end (F7 := F) (F8 := F) (j := i) Htk.out (Hon.out.mono (fun k e => .inr e)) Hown.out Hm.out.symm (fun k hk hF => by have := (World.ownsRow.lt Hown.out k hk).1; have := G.foot Hd.out k hF; omega) Hwal.out Hx.out (fun k hk => .inl hk) Hmle.out
        (by
          rw [tkS_whole (G.rise Hd.out) H.out Hpre.out, List.drop_of_length_le (by rw [H.out.len]; exact Nat.le_refl _)]
          unfold rmS
          rw [List.map_nil, rmF_nil]
          exact D2.out) (Only.refl _ _) (fun k hk => .inl hk))
      go_wp2
      exact bodyPost_ret (v := .tuple #[.slice B m c, .int .i64 0]) (by simp [results, Tryz.results29, go_sem]) rfl Hend.out
end Go.Proofs.YtdneobnnmmlebaaGreatDoor
