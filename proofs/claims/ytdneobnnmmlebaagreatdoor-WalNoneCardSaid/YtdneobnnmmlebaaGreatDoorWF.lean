/- Texts of one claim, joined: WB WC WD WE WF. -/
import Derived.Test.YtdneobnnmmlebaaGreatDoorWA
import Derived.Test.YtdneobnnmmlebaaGreatDoorDL
/-
  Segments: their names, in order; what a log's files tell, one answer alone; what opening leaves (pure).
-/
namespace Go.Proofs.YtdneobnnmmlebaaGreatDoor

/-- k digits of a number, the greatest first. -/
def digsL : Nat → Nat → List UInt8
  | 0, _ => []
  | k + 1, n => UInt8.ofNat (48 + n / 10 ^ k % 10) :: digsL k n
def fileL (n : Nat) : List UInt8 := 119 :: digsL 12 n
abbrev mostS : Nat := 999999999999
theorem digsL_len : ∀ k n, (digsL k n).length = k
  | 0, _ => rfl
  | k + 1, n => by rw [digsL, List.length_cons, digsL_len k n]
theorem fileL_len (n : Nat) : (fileL n).length = 13 := by rw [fileL, List.length_cons, digsL_len]
theorem dig_nat (n k : Nat) : (UInt8.ofNat (48 + n / 10 ^ k % 10)).toNat = 48 + n / 10 ^ k % 10 := by
  rw [UInt8.toNat_ofNat']; omega
theorem digs_split (n k : Nat) : n % 10 ^ (k + 1) = n % 10 ^ k + 10 ^ k * (n / 10 ^ k % 10) := by rw [Nat.pow_succ, Nat.mod_mul]
theorem digs_cmp {p a b A B : Nat} (ha : a < p) (hb : b < p) : a + p * A < b + p * B ↔ A < B ∨ (A = B ∧ a < b) := by
  rcases Nat.lt_trichotomy A B with h | h | h
  · have h1 := Nat.mul_le_mul_left p (show A + 1 ≤ B from h)
    rw [Nat.mul_add, Nat.mul_one] at h1
    constructor
    · intro _; exact .inl h
    · intro _; omega
  · subst h
    constructor
    · intro h1; exact .inr ⟨rfl, by omega⟩
    · rintro (h1 | ⟨_, h1⟩) <;> omega
  · have h1 := Nat.mul_le_mul_left p (show B + 1 ≤ A from h)
    rw [Nat.mul_add, Nat.mul_one] at h1
    constructor
    · intro h2; omega
    · rintro (h2 | ⟨h2, _⟩) <;> omega
theorem digs_lt : ∀ k n m, ltL (digsL k n) (digsL k m) = true ↔ n % 10 ^ k < m % 10 ^ k
  | 0, n, m => by simp [digsL, ltL_nil, Nat.mod_one]
  | k + 1, n, m => by
    rw [digsL, digsL, ltL_cons, digs_lt k n m, dig_nat, dig_nat, digs_split, digs_split, digs_cmp (Nat.mod_lt _ (Nat.pow_pos (by decide))) (Nat.mod_lt _ (Nat.pow_pos (by decide)))]
    constructor
    · rintro (h | ⟨h, h2⟩)
      · exact .inl (by omega)
      · refine .inr ⟨?_, h2⟩
        have := congrArg UInt8.toNat h
        rw [dig_nat, dig_nat] at this; omega
    · rintro (h | ⟨h, h2⟩)
      · exact .inl (by omega)
      · exact .inr ⟨by rw [h], h2⟩
theorem file_lt {n m : Nat} (hn : n ≤ mostS) (hm : m ≤ mostS) : ltL (fileL n) (fileL m) = true ↔ n < m := by
  unfold fileL
  rw [ltL_cons, digs_lt]
  have e1 : n % 10 ^ 12 = n := Nat.mod_eq_of_lt (by unfold mostS at hn; omega)
  have e2 : m % 10 ^ 12 = m := Nat.mod_eq_of_lt (by unfold mostS at hm; omega)
  rw [e1, e2]
  constructor
  · rintro (h | ⟨_, h⟩)
    · exact absurd h (Nat.lt_irrefl _)
    · exact h
  · intro h; exact .inr ⟨rfl, h⟩
theorem file_inj {n m : Nat} (hn : n ≤ mostS) (hm : m ≤ mostS) (h : fileL n = fileL m) : n = m := by
  rcases Nat.lt_trichotomy n m with e | e | e
  · have := (file_lt hn hm).2 e; rw [h, ltL_irrefl] at this; cases this
  · exact e
  · have := (file_lt hm hn).2 e; rw [h, ltL_irrefl] at this; cases this

/-- What a file holds. -/
def contF (f : Fl) : List UInt8 := f.2.1 ++ f.2.2
def Seg (l : List Fl) (n : Nat) (b : List UInt8) : Prop := ∃ f ∈ l, f.1 = fileL n ∧ contF f = b
def HasSeg (l : List Fl) (n : Nat) : Prop := n ≤ mostS ∧ ∃ b, Seg l n b
def IsSeg (nm : List UInt8) : Prop := ∃ n, 1 ≤ n ∧ n ≤ mostS ∧ nm = fileL n
/-- A beginning. -/
def Beg (b : List UInt8) : Prop := ∃ m t, (∀ r ∈ m, rightR r) ∧ m.length ≤ top ∧ b = headL m.length ++ (framesL m ++ t)
/-- The body of a segment of the log that begins with segment F, and its head's length. -/
def BodyOf (l : List Fl) (F k : Nat) (b : List UInt8) (off : Nat) : Prop := (k = F ∧ ∃ c, c ≤ top ∧ off = (headL c).length ∧ Seg l k (headL c ++ b)) ∨ (k ≠ F ∧ off = 0 ∧ Seg l k b)
inductive Chain (l : List Fl) (F : Nat) : Nat → List Rc → Nat → Nat → Prop
  | torn {k b off m t} : BodyOf l F k b off → Scan b m t → t ≠ [] → Chain l F k m k (off + (framesL m).length)
  | last {k b off m} : BodyOf l F k b off → Scan b m [] → ¬ HasSeg l (k + 1) → Chain l F k m k (off + (framesL m).length)
  | more {k b off m m2 la sz} : BodyOf l F k b off → Scan b m [] → HasSeg l (k + 1) → Chain l F (k + 1) m2 la sz → Chain l F k (m ++ m2) la sz
theorem seg_unique {l : List Fl} (hr : RiseF l) {n : Nat} {b c : List UInt8} (h1 : Seg l n b) (h2 : Seg l n c) : b = c := by
  obtain ⟨f, hf, hn, rfl⟩ := h1
  obtain ⟨q, hq, hm, rfl⟩ := h2
  rw [rise_mem hr hf hq (hn.trans hm.symm)]
theorem body_unique {l : List Fl} (hr : RiseF l) {F k : Nat} {b c : List UInt8} {o p : Nat} (h1 : BodyOf l F k b o) (h2 : BodyOf l F k c p) : b = c ∧ o = p := by
  rcases h1 with ⟨e, x, hx, rfl, h1⟩ | ⟨e, rfl, h1⟩ <;> rcases h2 with ⟨e', y, hy, rfl, h2⟩ | ⟨e', rfl, h2⟩
  · obtain ⟨e3, e4⟩ := frame_inj (okH hx) (okH hy) (seg_unique hr h1 h2)
    refine ⟨e4, ?_⟩
    injection e3 with _ e3
    have : x = y := by omega
    rw [this]
  · exact absurd e e'
  · exact absurd e' e
  · exact ⟨seg_unique hr h1 h2, rfl⟩
theorem chain_unique {l : List Fl} (hr : RiseF l) {F k : Nat} {m m' : List Rc} {la la' sz sz' : Nat} (h1 : Chain l F k m la sz) (h2 : Chain l F k m' la' sz') : m = m' ∧ la = la' ∧ sz = sz' := by
  induction h1 generalizing m' la' sz' with
  | torn hb hs ht =>
    cases h2 with
    | torn hb2 hs2 ht2 =>
      obtain ⟨rfl, rfl⟩ := body_unique hr hb hb2
      obtain ⟨rfl, _⟩ := scan_unique hs hs2
      exact ⟨rfl, rfl, rfl⟩
    | last hb2 hs2 hn2 =>
      obtain ⟨rfl, rfl⟩ := body_unique hr hb hb2
      exact absurd (scan_unique hs hs2).2 ht
    | more hb2 hs2 hn2 hc2 =>
      obtain ⟨rfl, rfl⟩ := body_unique hr hb hb2
      exact absurd (scan_unique hs hs2).2 ht
  | last hb hs hn =>
    cases h2 with
    | torn hb2 hs2 ht2 =>
      obtain ⟨rfl, rfl⟩ := body_unique hr hb hb2
      exact absurd (scan_unique hs hs2).2.symm ht2
    | last hb2 hs2 hn2 =>
      obtain ⟨rfl, rfl⟩ := body_unique hr hb hb2
      obtain ⟨rfl, _⟩ := scan_unique hs hs2
      exact ⟨rfl, rfl, rfl⟩
    | more hb2 hs2 hn2 hc2 => exact absurd hn2 hn
  | more hb hs hn hc ih =>
    cases h2 with
    | torn hb2 hs2 ht2 =>
      obtain ⟨rfl, rfl⟩ := body_unique hr hb hb2
      exact absurd (scan_unique hs hs2).2.symm ht2
    | last hb2 hs2 hn2 => exact absurd hn hn2
    | more hb2 hs2 hn2 hc2 =>
      obtain ⟨rfl, rfl⟩ := body_unique hr hb hb2
      obtain ⟨rfl, _⟩ := scan_unique hs hs2
      obtain ⟨rfl, rfl, rfl⟩ := ih hc2
      exact ⟨rfl, rfl, rfl⟩
/-- What a log's files tell: its first and last segment, the last one's size, the records. -/
structure LogOf (l : List Fl) (F la sz : Nat) (m : List Rc) : Prop where
  first : 1 ≤ F
  most : F ≤ mostS
  beg : ∃ b, Seg l F b ∧ Beg b
  above : ∀ n b, F < n → n ≤ mostS → Seg l n b → ¬ Beg b
  chain : Chain l F F m la sz
/-- No segment starts with a beginning. -/
def NoLog (l : List Fl) : Prop := ∀ n b, 1 ≤ n → n ≤ mostS → Seg l n b → ¬ Beg b
/-- What opening tells. -/
def Tells (l : List Fl) (F la sz : Nat) (m : List Rc) : Prop := LogOf l F la sz m ∨ (NoLog l ∧ F = 0 ∧ la = 0 ∧ sz = 0 ∧ m = [])
theorem tells_unique {l : List Fl} (hr : RiseF l) {F F' la la' sz sz' : Nat} {m m' : List Rc} (h1 : Tells l F la sz m) (h2 : Tells l F' la' sz' m') : F = F' ∧ la = la' ∧ sz = sz' ∧ m = m' := by
  rcases h1 with h1 | ⟨n1, rfl, rfl, rfl, rfl⟩ <;> rcases h2 with h2 | ⟨n2, rfl, rfl, rfl, rfl⟩
  · have e : F = F' := by
      obtain ⟨b, hb, hg⟩ := h1.beg
      obtain ⟨c, hc, hk⟩ := h2.beg
      rcases Nat.lt_trichotomy F F' with e | e | e
      · exact absurd hk (h1.above F' c e h2.most hc)
      · exact e
      · exact absurd hg (h2.above F b e h1.most hb)
    subst e
    obtain ⟨rfl, rfl, rfl⟩ := chain_unique hr h1.chain h2.chain
    exact ⟨rfl, rfl, rfl, rfl⟩
  · obtain ⟨b, hb, hg⟩ := h1.beg
    exact absurd hg (n2 F b h1.first h1.most hb)
  · obtain ⟨b, hb, hg⟩ := h2.beg
    exact absurd hg (n1 F' b h2.first h2.most hb)
  · exact ⟨rfl, rfl, rfl, rfl⟩
/-- What opening leaves of the files. -/
structure Opened (l : List Fl) (F la sz : Nat) (l' : List Fl) : Prop where
  rise : RiseF l'
  mem : ∀ f', f' ∈ l' ↔ (f' ∈ l ∧ ¬ IsSeg f'.1) ∨ (∃ n, F ≤ n ∧ n < la ∧ 1 ≤ F ∧ f'.1 = fileL n ∧ f' ∈ l) ∨ ∃ f ∈ l, 1 ≤ F ∧ f.1 = fileL la ∧ f' = cutF sz f
end Go.Proofs.YtdneobnnmmlebaaGreatDoor

/-
  A log as its files: segments that are whole and durable, and a last one; what is put, synced, begun anew, lost and opened (pure).
-/
namespace Go.Proofs.YtdneobnnmmlebaaGreatDoor

/-- A segment's bytes: F is the first one's number, c the count in its head. -/
def bodyB (F c j : Nat) (rs : List Rc) : List UInt8 := (if j = F then headL c else []) ++ framesL rs
def fulls (F c : Nat) : Nat → List (List Rc) → List Fl
  | _, [] => []
  | j, rs :: ss => (fileL j, bodyB F c j rs, []) :: fulls F c (j + 1) ss
def lastF (F c j : Nat) (rs : List Rc) (dl : Nat) : Fl := (fileL j, bodyB F c j (rs.take dl), framesL (rs.drop dl))
def filesOf (F c : Nat) (ini : List (List Rc)) (rs : List Rc) (dl : Nat) : List Fl := fulls F c F ini ++ [lastF F c (F + ini.length) rs dl]
theorem bodyB_append (F c j : Nat) (a b : List Rc) : bodyB F c j (a ++ b) = bodyB F c j a ++ framesL b := by unfold bodyB; rw [framesL_append, List.append_assoc]
theorem lastF_cont (F c j : Nat) (rs : List Rc) (dl : Nat) : contF (lastF F c j rs dl) = bodyB F c j rs := by
  unfold contF lastF
  rw [← bodyB_append, List.take_append_drop]
theorem fulls_len (F c : Nat) : ∀ j ss, (fulls F c j ss).length = ss.length
  | _, [] => rfl
  | j, rs :: ss => by rw [fulls, List.length_cons, fulls_len F c (j + 1) ss, List.length_cons]
theorem fulls_mem {F c : Nat} : ∀ {j : Nat} {ss : List (List Rc)} {f : Fl}, f ∈ fulls F c j ss → ∃ i rs, ss[i]? = some rs ∧ f = (fileL (j + i), bodyB F c (j + i) rs, [])
  | _, [], f, h => by cases h
  | j, rs :: ss, f, h => by
    rcases List.mem_cons.1 h with rfl | h
    · exact ⟨0, rs, rfl, rfl⟩
    · obtain ⟨i, x, h1, rfl⟩ := fulls_mem h
      exact ⟨i + 1, x, by simpa using h1, by rw [show j + 1 + i = j + (i + 1) by omega]⟩
theorem fulls_get {F c : Nat} : ∀ {j : Nat} {ss : List (List Rc)} {i : Nat} {rs : List Rc}, ss[i]? = some rs → (fulls F c j ss)[i]? = some (fileL (j + i), bodyB F c (j + i) rs, [])
  | j, [], i, rs, h => by simp at h
  | j, x :: ss, 0, rs, h => by
    obtain rfl : x = rs := by simpa using h
    rfl
  | j, x :: ss, i + 1, rs, h => by
    have := fulls_get (F := F) (c := c) (j := j + 1) (ss := ss) (i := i) (by simpa using h)
    rw [fulls, List.getElem?_cons_succ, this, show j + 1 + i = j + (i + 1) by omega]
theorem fulls_append (F c : Nat) : ∀ (j : Nat) (a : List (List Rc)) (rs : List Rc), fulls F c j (a ++ [rs]) = fulls F c j a ++ [(fileL (j + a.length), bodyB F c (j + a.length) rs, [])]
  | j, [], rs => rfl
  | j, x :: a, rs => by
    rw [List.cons_append, fulls, fulls, fulls_append F c (j + 1) a rs, List.cons_append, List.length_cons, show j + 1 + a.length = j + (a.length + 1) by omega]
theorem fulls_rise {F c : Nat} : ∀ {j : Nat} {ss : List (List Rc)} (f : Fl), j + ss.length ≤ mostS → f.1 = fileL (j + ss.length) → RiseF (fulls F c j ss ++ [f])
  | j, [], f, _, _ => by simp [fulls, RiseF]
  | j, rs :: ss, f, hb, hf => by
    rw [List.length_cons] at hb hf
    rw [fulls, List.cons_append]
    refine List.pairwise_cons.2 ⟨fun q hq => ?_, fulls_rise (j := j + 1) f (by omega) (by rw [hf]; congr 1; omega)⟩
    rcases List.mem_append.1 hq with h | h
    · obtain ⟨i, x, h1, rfl⟩ := fulls_mem h
      have := (List.getElem?_eq_some_iff.1 h1).1
      exact (file_lt (by omega) (by omega)).2 (by omega)
    · obtain rfl : q = f := by simpa using h
      show ltL (fileL j) q.1 = true
      rw [hf]
      exact (file_lt (by omega) (by omega)).2 (by omega)
theorem files_rise {F c : Nat} {ini : List (List Rc)} {rs : List Rc} {dl : Nat} (hb : F + ini.length ≤ mostS) : RiseF (filesOf F c ini rs dl) := fulls_rise _ hb rfl
theorem files_last (F c : Nat) (ini : List (List Rc)) (f : Fl) : (fulls F c F ini ++ [f])[ini.length]? = some f := by
  rw [List.getElem?_append_right (by rw [fulls_len]; omega), fulls_len, Nat.sub_self]; rfl
theorem files_at {F c : Nat} {ini : List (List Rc)} (f : Fl) (hf : f.1 = fileL (F + ini.length)) (hb : F + ini.length ≤ mostS) : atN (fileL (F + ini.length)) (fulls F c F ini ++ [f]) = some ini.length := by
  have := atN_of (fulls_rise (F := F) (c := c) (j := F) (ss := ini) f hb hf) (files_last F c ini f)
  rwa [hf] at this
theorem modify_end {a : List Fl} {x : Fl} (g : Fl → Fl) (n : Nat) (hn : a.length = n) : (a ++ [x]).modify n g = a ++ [g x] := by
  subst hn
  induction a with
  | nil => rfl
  | cons y a ih => simp only [List.cons_append, List.length_cons, List.modify_succ_cons, ih]
/-- What a disk without a fuse, or with one that has not burnt down, does: records behind the last segment's. -/
theorem put_last {F c : Nat} {ini : List (List Rc)} {rs x : List Rc} {dl : Nat} {s : St} (hs : s.files = filesOf F c ini rs dl) (hb : F + ini.length ≤ mostS) (hdl : dl ≤ rs.length) (hoff : s.off = false) (hr : rightL (fileL (F + ini.length)) = true)
    (hroom : ((usedL s.files + (framesL x).length : Nat) : Int) ≤ s.room) : appendS (fileL (F + ini.length)) (framesL x) s = if (burnS s).off = true then (7, burnS s) else (0, { burnS s with files := filesOf F c ini (rs ++ x) dl }) := by
  unfold appendS
  rw [if_neg (by rw [hoff]; simp), if_neg (by rw [hr]; simp), if_neg (by omega)]
  have : putF (fileL (F + ini.length)) (framesL x) s.files = filesOf F c ini (rs ++ x) dl := by
    unfold putF
    rw [hs, filesOf, files_at _ rfl hb]
    simp only
    rw [modify_end _ _ (fulls_len F c F ini), filesOf]
    unfold lastF
    simp only
    rw [List.take_append_of_le_length hdl, List.drop_append_of_le_length hdl, framesL_append]
  rw [this]
theorem sync_last {F c : Nat} {ini : List (List Rc)} {rs : List Rc} {dl : Nat} {s : St} (hs : s.files = filesOf F c ini rs dl) (hb : F + ini.length ≤ mostS) (hoff : s.off = false) :
    syncS (fileL (F + ini.length)) s = if (burnS s).off = true then (7, burnS s) else (0, { burnS s with files := filesOf F c ini rs rs.length }) := by
  unfold syncS onS
  rw [if_neg (by rw [hoff]; simp), hs, filesOf, files_at _ rfl hb]
  simp only
  rw [modify_end _ _ (fulls_len F c F ini), filesOf]
  unfold lastF syncF
  simp only
  rw [← bodyB_append, List.take_append_drop, List.take_length, List.drop_length, framesL_nil]
theorem place_end {nm : List UInt8} : ∀ {l : List Fl}, (∀ f ∈ l, ltL f.1 nm = true) → placeL nm l = l.length
  | [], _ => rfl
  | f :: l, h => by rw [placeL, if_pos (h f (by simp)), place_end (fun q hq => h q (by simp [hq])), List.length_cons]
theorem at_none {nm : List UInt8} : ∀ {l : List Fl}, (∀ f ∈ l, f.1 ≠ nm) → atN nm l = none
  | [], _ => rfl
  | f :: l, h => by rw [atN_skip (h f (by simp)), at_none (fun q hq => h q (by simp [hq]))]; rfl
theorem files_below {F c : Nat} {ini : List (List Rc)} {f : Fl} (hf : f.1 = fileL (F + ini.length)) (hb : F + ini.length < mostS) : ∀ q ∈ fulls F c F ini ++ [f], ltL q.1 (fileL (F + ini.length + 1)) = true := fun q hq => by
  rcases List.mem_append.1 hq with h | h
  · obtain ⟨i, x, h1, rfl⟩ := fulls_mem h
    have := (List.getElem?_eq_some_iff.1 h1).1
    exact (file_lt (by omega) (by omega)).2 (by omega)
  · obtain rfl : q = f := by simpa using h
    rw [hf]
    exact (file_lt (by omega) (by omega)).2 (by omega)
theorem lt_ne {a b : List UInt8} (h : ltL a b = true) : a ≠ b := fun e => by rw [e, ltL_irrefl] at h; cases h
/-- A file behind the last segment, with whatever in it. -/
theorem put_new {F c : Nat} {ini : List (List Rc)} {f : Fl} {b : List UInt8} {s : St} (hs : s.files = fulls F c F ini ++ [f]) (hf : f.1 = fileL (F + ini.length)) (hb : F + ini.length < mostS) (hoff : s.off = false) (hr : rightL (fileL (F + ini.length + 1)) = true)
    (hroom : ((usedL s.files + b.length : Nat) : Int) ≤ s.room) : appendS (fileL (F + ini.length + 1)) b s = if (burnS s).off = true then (7, burnS s) else (0, { burnS s with files := s.files ++ [(fileL (F + ini.length + 1), [], b)] }) := by
  unfold appendS
  rw [if_neg (by rw [hoff]; simp), if_neg (by rw [hr]; simp), if_neg (by omega)]
  have hbel := files_below (F := F) (c := c) hf hb
  rw [← hs] at hbel
  have : putF (fileL (F + ini.length + 1)) b s.files = s.files ++ [(fileL (F + ini.length + 1), [], b)] := by
    rw [putF_new _ (at_none fun q hq => lt_ne (hbel q hq)), place_end hbel, List.take_length, List.drop_length]
  rw [this]
/-- The last segment is whole and durable, and another one begins. -/
theorem files_turn {F c : Nat} {ini : List (List Rc)} {rs : List Rc} (x : List Rc) : filesOf F c ini rs rs.length ++ [(fileL (F + ini.length + 1), [], framesL x)] = filesOf F c (ini ++ [rs]) x 0 := by
  unfold filesOf
  rw [fulls_append]
  unfold lastF
  simp only [List.take_zero, List.drop_zero, List.take_length, List.drop_length, List.length_append, List.length_cons, List.length_nil, framesL_nil]
  rw [show F + (ini.length + (0 + 1)) = F + ini.length + 1 by omega]
  have : bodyB F c (F + ini.length + 1) [] = [] := by unfold bodyB; rw [if_neg (by omega)]; rfl
  rw [this]
/-- What a crash leaves: a beginning of what was not synced. -/
theorem crash_last (keep : List Int) {F c : Nat} {ini : List (List Rc)} (f : Fl) : ∃ m, crashL keep 0 (fulls F c F ini ++ [f]) = fulls F c F ini ++ [(f.1, f.2.1 ++ f.2.2.take m, [])] := by
  have key : ∀ (j : Nat) (ss : List (List Rc)), crashL keep 0 (fulls F c j ss) = fulls F c j ss ∧ lateN (fulls F c j ss) = 0 := by
    intro j ss
    induction ss generalizing j with
    | nil => exact ⟨rfl, rfl⟩
    | cons rs ss ih =>
      obtain ⟨h1, h2⟩ := ih (j + 1)
      exact ⟨by rw [fulls, crashL, if_pos rfl, h1], by rw [fulls, lateN, if_pos rfl, h2]⟩
  obtain ⟨h1, h2⟩ := key F ini
  rw [crashL_snoc, h1]
  unfold crashF
  split
  · rename_i h
    exact ⟨0, by rw [List.take_zero, List.append_nil]⟩
  · exact ⟨_, rfl⟩
end Go.Proofs.YtdneobnnmmlebaaGreatDoor

/-
  What the files of a log tell, behind a crash too (pure).
-/
namespace Go.Proofs.YtdneobnnmmlebaaGreatDoor

section
variable {F c : Nat} {ini : List (List Rc)} {f : Fl}
theorem seg_full {i : Nat} {rs : List Rc} (h : ini[i]? = some rs) : Seg (fulls F c F ini ++ [f]) (F + i) (bodyB F c (F + i) rs) :=
  ⟨_, List.mem_append_left _ (List.mem_of_getElem? (fulls_get h)), rfl, by simp [contF]⟩
theorem seg_end (hf : f.1 = fileL (F + ini.length)) : Seg (fulls F c F ini ++ [f]) (F + ini.length) (contF f) := ⟨f, by simp, hf, rfl⟩
theorem seg_which (hf : f.1 = fileL (F + ini.length)) (hb : F + ini.length ≤ mostS) {n : Nat} (hn : n ≤ mostS) {b : List UInt8} (h : Seg (fulls F c F ini ++ [f]) n b) :
    (∃ i rs, ini[i]? = some rs ∧ n = F + i ∧ b = bodyB F c n rs) ∨ (n = F + ini.length ∧ b = contF f) := by
  obtain ⟨q, hq, hqn, rfl⟩ := h
  rcases List.mem_append.1 hq with e | e
  · obtain ⟨i, rs, h1, rfl⟩ := fulls_mem e
    have := (List.getElem?_eq_some_iff.1 h1).1
    have := file_inj (by omega) hn hqn
    exact .inl ⟨i, rs, h1, this.symm, by rw [← this]; simp [contF]⟩
  · obtain rfl : q = f := by simpa using e
    exact .inr ⟨(file_inj hb hn (hf.symm.trans hqn)).symm, rfl⟩
theorem seg_none (hf : f.1 = fileL (F + ini.length)) (hb : F + ini.length ≤ mostS) : ¬ HasSeg (fulls F c F ini ++ [f]) (F + ini.length + 1) := fun ⟨hn, b, h⟩ => by
  rcases seg_which hf hb hn h with ⟨i, rs, h1, e, _⟩ | ⟨e, _⟩
  · have := (List.getElem?_eq_some_iff.1 h1).1; omega
  · omega
theorem chain_of (hf : f.1 = fileL (F + ini.length)) (hb : F + ini.length ≤ mostS) (hc : c ≤ top) (hri : ∀ rs ∈ ini, ∀ r ∈ rs, rightR r) {b : List UInt8} {off : Nat} {m : List Rc} {t : List UInt8}
    (hbody : BodyOf (fulls F c F ini ++ [f]) F (F + ini.length) b off) (hscan : Scan b m t) :
    ∀ d i, i + d = ini.length → Chain (fulls F c F ini ++ [f]) F (F + i) ((ini.drop i).flatten ++ m) (F + ini.length) (off + (framesL m).length)
  | 0, i, h => by
    have hi : i = ini.length := by omega
    subst hi
    rw [List.drop_length]
    show Chain _ F _ m _ _
    by_cases ht : t = []
    · subst ht; exact .last hbody hscan (seg_none hf hb)
    · exact .torn hbody hscan ht
  | d + 1, i, h => by
    have hlt : i < ini.length := by omega
    obtain ⟨rs, hrs⟩ : ∃ rs, ini[i]? = some rs := ⟨_, List.getElem?_eq_getElem hlt⟩
    have ih := chain_of hf hb hc hri hbody hscan d (i + 1) (by omega)
    have hd : ini.drop i = rs :: ini.drop (i + 1) := by
      obtain ⟨hl, e⟩ := List.getElem?_eq_some_iff.1 hrs
      rw [List.drop_eq_getElem_cons hl, e]
    rw [hd, List.flatten_cons, List.append_assoc]
    have hs := seg_full (F := F) (c := c) (f := f) hrs
    have hri' := hri rs (List.mem_of_getElem? hrs)
    have hnext : HasSeg (fulls F c F ini ++ [f]) (F + i + 1) := by
      refine ⟨by omega, ?_⟩
      by_cases h2 : i + 1 < ini.length
      · exact ⟨_, seg_full (F := F) (c := c) (f := f) (List.getElem?_eq_getElem h2)⟩
      · have : F + i + 1 = F + ini.length := by omega
        rw [this]
        exact ⟨_, seg_end hf⟩
    have hbo : ∃ off', BodyOf (fulls F c F ini ++ [f]) F (F + i) (framesL rs) off' := by
      by_cases h0 : i = 0
      · subst h0
        exact ⟨_, .inl ⟨rfl, c, hc, rfl, by have := hs; unfold bodyB at this; rw [if_pos (by rfl)] at this; exact this⟩⟩
      · exact ⟨0, .inr ⟨by omega, rfl, by have := hs; unfold bodyB at this; rw [if_neg (by omega)] at this; exact this⟩⟩
    obtain ⟨off', hbo⟩ := hbo
    exact .more hbo (scan_frames hri') hnext ih
theorem beg_frames {n : Nat} {rs : List Rc} {t : List UInt8} (hn : n ≤ rs.length) (ht : n ≤ top) (hr : ∀ r ∈ rs, rightR r) : Beg (headL n ++ (framesL rs ++ t)) :=
  ⟨rs.take n, framesL (rs.drop n) ++ t, fun r h => hr r (List.mem_of_mem_take h), by rw [List.length_take]; omega, by rw [List.length_take, Nat.min_eq_left hn, ← List.append_assoc (framesL _), ← framesL_append, List.take_append_drop]⟩
theorem not_beg {rs : List Rc} {p : List UInt8} (hr : ∀ r ∈ rs, rightR r) (hp : p <+: framesL rs) : ¬ Beg p := fun ⟨_, _, _, hm, e⟩ => no_head hm hr hp ⟨_, e.symm⟩
theorem log_of (hf : f.1 = fileL (F + ini.length)) (hF : 1 ≤ F) (hb : F + ini.length ≤ mostS) (hc : c ≤ top) (hri : ∀ rs ∈ ini, ∀ r ∈ rs, rightR r) {b : List UInt8} {off : Nat} {m : List Rc} {t : List UInt8}
    (hbody : (ini = [] ∧ contF f = headL c ++ b ∧ off = (headL c).length) ∨ (ini ≠ [] ∧ contF f = b ∧ off = 0)) (hscan : Scan b m t) (hbeg : (ini = [] ∧ c ≤ m.length) ∨ ∃ rs ss, ini = rs :: ss ∧ c ≤ rs.length) (hlast : ini ≠ [] → ¬ Beg (contF f)) :
    LogOf (fulls F c F ini ++ [f]) F (F + ini.length) (off + (framesL m).length) (ini.flatten ++ m) := by
  have hbo : BodyOf (fulls F c F ini ++ [f]) F (F + ini.length) b off := by
    rcases hbody with ⟨h0, h1, h2⟩ | ⟨h0, h1, h2⟩
    · subst h0
      exact .inl ⟨rfl, c, hc, h2, by rw [← h1]; exact seg_end hf⟩
    · have : 0 < ini.length := List.length_pos_iff.2 h0
      exact .inr ⟨by omega, h2, by rw [← h1]; exact seg_end hf⟩
  refine ⟨hF, by omega, ?_, ?_, ?_⟩
  · rcases hbeg with ⟨h0, h1⟩ | ⟨rs, ss, h0, h1⟩
    · rcases hbody with ⟨_, h3, _⟩ | ⟨h2, _, _⟩
      · subst h0
        refine ⟨_, seg_end hf, ?_⟩
        rw [h3, hscan.eq]
        exact beg_frames h1 hc hscan.right
      · exact absurd h0 h2
    · refine ⟨_, seg_full (i := 0) (rs := rs) (by rw [h0]; rfl), ?_⟩
      unfold bodyB
      rw [if_pos (by rfl)]
      have := beg_frames (t := []) h1 hc (hri rs (by rw [h0]; simp))
      rwa [List.append_nil] at this
  · intro n b' h1 h2 h3
    rcases seg_which hf hb h2 h3 with ⟨i, rs, h4, rfl, rfl⟩ | ⟨rfl, rfl⟩
    · unfold bodyB
      rw [if_neg (by omega)]
      exact not_beg (hri rs (List.mem_of_getElem? h4)) (List.prefix_refl _)
    · exact hlast (fun h0 => by rw [h0] at h1; simp at h1)
  · have := chain_of hf hb hc hri hbo hscan ini.length 0 (by omega)
    simpa using this
/-- Behind a crash: all segments but the last, and a beginning of its records, with the durable ones. -/
theorem crash_log (keep : List Int) {rs : List Rc} {dl : Nat} (hF : 1 ≤ F) (hb : F + ini.length ≤ mostS) (hc : c ≤ top) (hri : ∀ rs ∈ ini, ∀ r ∈ rs, rightR r) (hr : ∀ r ∈ rs, rightR r) (hdl : dl ≤ rs.length)
    (hbeg : (ini = [] ∧ c ≤ dl) ∨ ∃ rs ss, ini = rs :: ss ∧ c ≤ rs.length) : ∃ m sz, m <+: rs ∧ dl ≤ m.length ∧ LogOf (crashL keep 0 (filesOf F c ini rs dl)) F (F + ini.length) sz (ini.flatten ++ m) := by
  obtain ⟨q, hq⟩ := crash_last keep (F := F) (c := c) (ini := ini) (lastF F c (F + ini.length) rs dl)
  rw [filesOf, hq]
  have hp : framesL (rs.take dl) ++ (framesL (rs.drop dl)).take q <+: framesL rs := by
    conv => rhs; rw [← List.take_append_drop dl rs, framesL_append]
    exact (List.prefix_append_right_inj _).2 (List.take_prefix _ _)
  obtain ⟨m, t, h1, h2, h3⟩ := scan_prefix hr hp
  have h4 := h3 dl hdl (List.prefix_append _ _)
  have hcont : contF ((lastF F c (F + ini.length) rs dl).1, (lastF F c (F + ini.length) rs dl).2.1 ++ (lastF F c (F + ini.length) rs dl).2.2.take q, []) = (if F + ini.length = F then headL c else []) ++ (framesL (rs.take dl) ++ (framesL (rs.drop dl)).take q) := by
    unfold contF lastF bodyB
    simp only [List.append_nil]
    rw [List.append_assoc]
  by_cases h0 : ini = []
  · rw [if_pos (by rw [h0]; rfl)] at hcont
    refine ⟨m, _, h1, h4, log_of rfl hF hb hc hri (.inl ⟨h0, hcont, rfl⟩) h2 ?_ (fun h => absurd h0 h)⟩
    rcases hbeg with ⟨_, h⟩ | ⟨a, b, h, _⟩
    · exact .inl ⟨h0, by omega⟩
    · rw [h] at h0; cases h0
  · have hpos : 0 < ini.length := List.length_pos_iff.2 h0
    rw [if_neg (by omega), List.nil_append] at hcont
    refine ⟨m, _, h1, h4, log_of rfl hF hb hc hri (.inr ⟨h0, hcont, rfl⟩) h2 (hbeg.elim (fun h => absurd h.1 h0) .inr) (fun _ => by rw [hcont]; exact not_beg hr hp)⟩
/-- Without a crash. -/
theorem whole_log {rs : List Rc} {dl : Nat} (hF : 1 ≤ F) (hb : F + ini.length ≤ mostS) (hc : c ≤ top) (hri : ∀ rs ∈ ini, ∀ r ∈ rs, rightR r) (hr : ∀ r ∈ rs, rightR r)
    (hbeg : (ini = [] ∧ c ≤ rs.length) ∨ ∃ rs ss, ini = rs :: ss ∧ c ≤ rs.length) : ∃ sz, LogOf (filesOf F c ini rs dl) F (F + ini.length) sz (ini.flatten ++ rs) := by
  have hcont : contF (lastF F c (F + ini.length) rs dl) = (if F + ini.length = F then headL c else []) ++ framesL rs := by rw [lastF_cont]; rfl
  by_cases h0 : ini = []
  · rw [if_pos (by rw [h0]; rfl)] at hcont
    exact ⟨_, log_of rfl hF hb hc hri (.inl ⟨h0, hcont, rfl⟩) (scan_frames hr) hbeg (fun h => absurd h0 h)⟩
  · have hpos : 0 < ini.length := List.length_pos_iff.2 h0
    rw [if_neg (by omega), List.nil_append] at hcont
    exact ⟨_, log_of rfl hF hb hc hri (.inr ⟨h0, hcont, rfl⟩) (scan_frames hr) hbeg (fun _ => by rw [hcont]; exact not_beg hr (List.prefix_refl _))⟩
end
end Go.Proofs.YtdneobnnmmlebaaGreatDoor

/-
  A log that is opened again tells the same (pure).
-/
namespace Go.Proofs.YtdneobnnmmlebaaGreatDoor

theorem scan_more : ∀ {m m0 : List Rc} {s t t0 : List UInt8}, Scan s m t → (∀ r ∈ m0, rightR r) → s = framesL m0 ++ t0 → m0.length ≤ m.length
  | _, [], _, _, _, _, _, _ => Nat.zero_le _
  | [], q :: m0, s, t, t0, h, hr, e => by
    exfalso
    have e1 : s = t := h.eq
    refine h.stop q (hr q (by simp)) ?_
    rw [← e1, e, framesL_cons, List.append_assoc]
    exact List.prefix_append _ _
  | r :: m, q :: m0, s, t, t0, h, hr, e => by
    have e1 := h.eq.symm.trans e
    rw [framesL_cons, framesL_cons, List.append_assoc, List.append_assoc] at e1
    obtain ⟨_, e2⟩ := frame_inj (h.right r (by simp)).ok (hr q (by simp)).ok e1
    have := scan_more (s := framesL m ++ t) (m := m) (t := t) ⟨fun x hx => h.right x (by simp [hx]), rfl, h.stop⟩ (fun x hx => hr x (by simp [hx])) e2
    simpa using this
theorem chain_right {l : List Fl} {F k la sz : Nat} {m : List Rc} (h : Chain l F k m la sz) : ∀ r ∈ m, rightR r := by
  induction h with
  | torn _ hs _ => exact hs.right
  | last _ hs _ => exact hs.right
  | more _ hs _ _ ih => exact fun r hr => (List.mem_append.1 hr).elim (hs.right r) (ih r)
theorem chain_le {l : List Fl} {F k la sz : Nat} {m : List Rc} (h : Chain l F k m la sz) : k ≤ la := by
  induction h with
  | torn _ _ _ => exact Nat.le_refl _
  | last _ _ _ => exact Nat.le_refl _
  | more _ _ _ _ ih => omega
theorem cutF_whole {f : Fl} {n : Nat} (h : sizeF f = n) : cutF n f = f := by
  obtain ⟨a, b, c⟩ := f
  unfold sizeF at h
  simp only at h
  subst h
  unfold cutF
  simp only
  rw [Nat.min_eq_right (by omega), List.take_left, ← List.length_append, List.take_length, List.drop_left]
theorem contF_cut {f : Fl} {n : Nat} : contF (cutF n f) = (contF f).take n := cutF_all n f
/-- The last segment of a chain: its body, and where it ends. -/
theorem chain_end {l : List Fl} {F k la sz : Nat} {m : List Rc} (h : Chain l F k m la sz) : ∃ b off m2 t, BodyOf l F la b off ∧ Scan b m2 t ∧ sz = off + (framesL m2).length := by
  induction h with
  | torn hb hs _ => exact ⟨_, _, _, _, hb, hs, rfl⟩
  | last hb hs _ => exact ⟨_, _, _, _, hb, hs, rfl⟩
  | more _ _ _ _ ih => exact ih
theorem chain_most {l : List Fl} {F k la sz : Nat} {m : List Rc} (h : Chain l F k m la sz) (hk : k ≤ mostS) : la ≤ mostS := by
  induction h with
  | torn _ _ _ => exact hk
  | last _ _ _ => exact hk
  | more _ _ hn _ ih => exact ih hn.1
section
variable {l l' : List Fl} {F la sz : Nat} {m : List Rc}
theorem opened_keep (ho : Opened l F la sz l') (hF : 1 ≤ F) {k : Nat} (h1 : F ≤ k) (h2 : k < la) {b : List UInt8} (hs : Seg l k b) : Seg l' k b := by
  obtain ⟨f, hf, hn, hc⟩ := hs
  exact ⟨f, (ho.mem f).2 (.inr (.inl ⟨k, h1, h2, hF, hn, hf⟩)), hn, hc⟩
theorem opened_cut (ho : Opened l F la sz l') (hF : 1 ≤ F) {b : List UInt8} (hs : Seg l la b) : Seg l' la (b.take sz) := by
  obtain ⟨f, hf, hn, hc⟩ := hs
  exact ⟨cutF sz f, (ho.mem _).2 (.inr (.inr ⟨f, hf, hF, hn, rfl⟩)), hn, by rw [contF_cut, hc]⟩
theorem opened_seg (ho : Opened l F la sz l') (hla : la ≤ mostS) {n : Nat} (hn : n ≤ mostS) (hn1 : 1 ≤ n) {b : List UInt8} (hs : Seg l' n b) : F ≤ n ∧ n < la ∧ Seg l n b ∨ n = la ∧ ∃ c, Seg l la c ∧ b = c.take sz := by
  obtain ⟨f', hf', hfn, hc⟩ := hs
  rcases (ho.mem f').1 hf' with ⟨_, hns⟩ | ⟨k, h1, h2, _, h4, h5⟩ | ⟨f, hf, _, h4, rfl⟩
  · exact absurd ⟨n, hn1, hn, hfn⟩ hns
  · have := file_inj hn (by omega) (hfn.symm.trans h4)
    subst this
    exact .inl ⟨h1, h2, f', h5, hfn, hc⟩
  · have := file_inj hn hla (hfn.symm.trans h4)
    exact .inr ⟨this, contF f, ⟨f, hf, h4, rfl⟩, by rw [← contF_cut, hc]⟩
theorem body_keep (ho : Opened l F la sz l') (hF : 1 ≤ F) {k : Nat} (h1 : F ≤ k) (h2 : k < la) {b : List UInt8} {off : Nat} (hb : BodyOf l F k b off) : BodyOf l' F k b off := by
  rcases hb with ⟨e, c, hc, ho', hs⟩ | ⟨e, ho', hs⟩
  · exact .inl ⟨e, c, hc, ho', opened_keep ho hF h1 h2 hs⟩
  · exact .inr ⟨e, ho', opened_keep ho hF h1 h2 hs⟩
theorem body_cut (ho : Opened l F la sz l') (hF : 1 ≤ F) {b : List UInt8} {off : Nat} {m2 : List Rc} {t : List UInt8} (hb : BodyOf l F la b off) (hs : Scan b m2 t) (hsz : sz = off + (framesL m2).length) : BodyOf l' F la (framesL m2) off := by
  subst hsz
  rcases hb with ⟨e, c, hc, ho', hg⟩ | ⟨e, ho', hg⟩
  · refine .inl ⟨e, c, hc, ho', ?_⟩
    have := opened_cut ho hF hg
    rw [hs.eq, ho', ← List.append_assoc, ← List.length_append, List.take_left] at this
    exact this
  · refine .inr ⟨e, ho', ?_⟩
    have := opened_cut ho hF hg
    rw [hs.eq, ho', Nat.zero_add, List.take_left] at this
    exact this
theorem chain_again (ho : Opened l F la sz l') (hF : 1 ≤ F) (hla : la ≤ mostS) : ∀ {k : Nat} {m : List Rc}, F ≤ k → Chain l F k m la sz → Chain l' F k m la sz := by
  intro k m hk h
  have hno : ¬ HasSeg l' (la + 1) := fun ⟨h1, b, h2⟩ => by
    rcases opened_seg ho hla h1 (by omega) h2 with ⟨_, h3, _⟩ | ⟨h3, _⟩ <;> omega
  have key : ∀ {k m la' sz'}, Chain l F k m la' sz' → la' = la → sz' = sz → F ≤ k → Chain l' F k m la sz := by
    intro k m la' sz' h
    induction h with
    | torn hb hs ht =>
      rintro rfl hsz _
      have := Chain.last (body_cut ho hF hb hs hsz.symm) (scan_frames hs.right) hno
      rwa [hsz] at this
    | last hb hs hn =>
      rintro rfl hsz _
      have := Chain.last (body_cut ho hF hb hs hsz.symm) (scan_frames hs.right) hno
      rwa [hsz] at this
    | @more k b off m1 m2 la' sz' hb hs hn hc ih =>
      rintro rfl rfl hk
      have hle := chain_le hc
      have ih := ih rfl rfl (by omega)
      refine .more (body_keep ho hF hk (by omega) hb) hs ?_ ih
      obtain ⟨hm, c, hg⟩ := hn
      rcases Nat.lt_or_ge (k + 1) la' with h | h
      · exact ⟨hm, c, opened_keep ho hF (by omega) h hg⟩
      · have : k + 1 = la' := by omega
        rw [this] at hg ⊢
        exact ⟨by omega, _, opened_cut ho hF hg⟩
  exact key h rfl rfl hk
theorem again_tells (hr : RiseF l) (ht : Tells l F la sz m) (ho : Opened l F la sz l') : Tells l' F la sz m := by
  rcases ht with ht | ⟨hn, rfl, rfl, rfl, rfl⟩
  · left
    have hF := ht.first
    have hla := chain_most ht.chain ht.most
    have hle := chain_le ht.chain
    obtain ⟨b, off, m2, t, hb, hs, hsz⟩ := chain_end ht.chain
    refine ⟨hF, ht.most, ?_, ?_, chain_again ho hF hla (Nat.le_refl _) ht.chain⟩
    · obtain ⟨bF, hg, hbeg⟩ := ht.beg
      rcases Nat.lt_or_ge F la with h | h
      · exact ⟨bF, opened_keep ho hF (Nat.le_refl _) h hg, hbeg⟩
      · have e : F = la := by omega
        subst e
        obtain ⟨m0, t0, h1, h2, rfl⟩ := hbeg
        rcases hb with ⟨_, c, hc, hoff, hg3⟩ | ⟨e, _, _⟩
        · obtain ⟨e5, e6⟩ := frame_inj (okH h2) (okH hc) (seg_unique hr hg hg3)
          have h7 := scan_more hs h1 e6.symm
          have hg2 := opened_cut ho hF hg3
          rw [hs.eq, hsz, hoff, ← List.append_assoc, ← List.length_append, List.take_left] at hg2
          refine ⟨_, hg2, ?_⟩
          have e10 := congrArg Rc.idx e5
          simp only at e10
          rw [show c = m0.length by omega]
          have := beg_frames (t := []) h7 h2 hs.right
          rwa [List.append_nil] at this
        · exact absurd rfl e
    · intro n b' h1 h2 h3 hbeg
      rcases opened_seg ho hla h2 (by omega) h3 with ⟨_, _, h4⟩ | ⟨rfl, c, h4, rfl⟩
      · exact ht.above n b' h1 h2 h4 hbeg
      · rcases body_cut ho hF hb hs hsz with ⟨e, _⟩ | ⟨_, _, hg⟩
        · omega
        · rw [seg_unique ho.rise h3 hg] at hbeg
          exact not_beg hs.right (List.prefix_refl _) hbeg
  · right
    refine ⟨fun n b h1 h2 h3 _ => ?_, rfl, rfl, rfl, rfl⟩
    rcases opened_seg ho (by omega) h2 h1 h3 with ⟨_, h4, _⟩ | ⟨h4, _⟩ <;> omega
/-- Opened again, the files stay as they are. -/
theorem again_files (hr : RiseF l) (ht : Tells l F la sz m) (ho : Opened l F la sz l') {l'' : List Fl} (ho2 : Opened l' F la sz l'') : l'' = l' := by
  have hmem : ∀ f, f ∈ l'' ↔ f ∈ l' := fun f => by
    constructor
    · intro h
      rcases (ho2.mem f).1 h with ⟨h1, _⟩ | ⟨_, _, _, _, _, h1⟩ | ⟨q, hq, hF, hqn, rfl⟩
      · exact h1
      · exact h1
      · rcases ht with ht | ⟨_, rfl, _⟩
        · have hla := chain_most ht.chain ht.most
          have hle := chain_le ht.chain
          rcases (ho.mem q).1 hq with ⟨_, hns⟩ | ⟨k, h1, h2, _, h4, _⟩ | ⟨g, hg, _, hgn, rfl⟩
          · exact absurd ⟨la, by omega, hla, hqn⟩ hns
          · have := file_inj hla (by omega) (hqn.symm.trans h4); omega
          · obtain ⟨b, off, m2, t, hb, hs, hsz⟩ := chain_end ht.chain
            have hsg : sz ≤ sizeF g := by
              have e1 : sizeF g = (contF g).length := by unfold sizeF contF; rw [List.length_append]
              rw [e1, hsz]
              rcases hb with ⟨_, c, _, hoff, hg2⟩ | ⟨_, hoff, hg2⟩
              · rw [seg_unique hr ⟨g, hg, hgn, rfl⟩ hg2, hs.eq, hoff]
                simp only [List.length_append]; omega
              · rw [seg_unique hr ⟨g, hg, hgn, rfl⟩ hg2, hs.eq, hoff]
                simp only [List.length_append]; omega
            rw [cutF_whole (cutF_size hsg)]
            exact hq
        · omega
    · intro h
      rcases (ho.mem f).1 h with ⟨_, h2⟩ | ⟨k, h1, h2, h3, h4, _⟩ | ⟨g, hg, hF, hgn, rfl⟩
      · exact (ho2.mem f).2 (.inl ⟨h, h2⟩)
      · exact (ho2.mem f).2 (.inr (.inl ⟨k, h1, h2, h3, h4, h⟩))
      · refine (ho2.mem _).2 (.inr (.inr ⟨_, h, hF, hgn, ?_⟩))
        rcases ht with ht | ⟨_, rfl, _⟩
        · obtain ⟨b, off, m2, t, hb, hs, hsz⟩ := chain_end ht.chain
          have hsg : sz ≤ sizeF g := by
            have e1 : sizeF g = (contF g).length := by unfold sizeF contF; rw [List.length_append]
            rw [e1, hsz]
            rcases hb with ⟨_, c, _, hoff, hg2⟩ | ⟨_, hoff, hg2⟩
            · rw [seg_unique hr ⟨g, hg, hgn, rfl⟩ hg2, hs.eq, hoff]
              simp only [List.length_append]; omega
            · rw [seg_unique hr ⟨g, hg, hgn, rfl⟩ hg2, hs.eq, hoff]
              simp only [List.length_append]; omega
          exact (cutF_whole (cutF_size hsg)).symm
        · omega
  have hnd : ∀ {a : List Fl}, RiseF a → a.Nodup := fun h => h.imp fun {x y} hxy e => by rw [e, ltL_irrefl] at hxy; cases hxy
  have hp : l''.Perm l' := (List.perm_ext_iff_of_nodup (hnd ho2.rise) (hnd ho.rise)).2 hmem
  exact List.Perm.eq_of_pairwise (fun a b _ _ ha hb => absurd (ltL_asymm ha) (by rw [hb]; simp)) ho2.rise ho.rise hp
theorem tells_right (ht : Tells l F la sz m) : ∀ r ∈ m, rightR r := by
  rcases ht with ht | ⟨_, _, _, _, rfl⟩
  · exact chain_right ht.chain
  · intro r h; cases h
end
end Go.Proofs.YtdneobnnmmlebaaGreatDoor

/-
  What the calls of a log do to its files (pure): names of segments are right; begun anew, put, synced.
-/
namespace Go.Proofs.YtdneobnnmmlebaaGreatDoor

theorem size_plain {b : UInt8} {l : List UInt8} (h : b.toNat ≤ 127) : sizeL (b :: l) = 1 := by
  unfold sizeL
  exact if_pos ⟨by simp, Nat.zero_le _, h⟩
theorem name_plain {b : UInt8} {l : List UInt8} (h : (97 ≤ b.toNat ∧ b.toNat ≤ 122) ∨ (48 ≤ b.toNat ∧ b.toNat ≤ 57)) : nameP ((b :: l).take (sizeL (b :: l))) = true := by
  rw [size_plain (by omega)]
  unfold nameP
  rw [if_pos (by simp)]
  have : byteN (List.take 1 (b :: l)) 0 = b.toNat := rfl
  rw [this]
  exact decide_eq_true (by omega)
theorem plain_restR : ∀ (l : List UInt8) (j : Nat), (∀ b ∈ l, (97 ≤ b.toNat ∧ b.toNat ≤ 122) ∨ (48 ≤ b.toNat ∧ b.toNat ≤ 57)) → 1 ≤ j → restR j l = decide (j + l.length ≤ 24)
  | [], j, _, hj => by rw [restR_nil]; exact decide_eq_decide.2 (by simp; omega)
  | b :: l, j, h, hj => by
    have hb := h b (by simp)
    rw [restR_step j _ (by rw [size_plain (by omega)]; omega) (name_plain hb) (fun e => by omega), size_plain (by omega)]
    show restR (j + 1) l = _
    rw [plain_restR l (j + 1) (fun x hx => h x (by simp [hx])) (by omega)]
    exact decide_eq_decide.2 (by rw [List.length_cons]; omega)
theorem digs_plain : ∀ (k n : Nat), ∀ b ∈ digsL k n, (97 ≤ b.toNat ∧ b.toNat ≤ 122) ∨ (48 ≤ b.toNat ∧ b.toNat ≤ 57)
  | 0, _, b, h => by cases h
  | k + 1, n, b, h => by
    rcases List.mem_cons.1 h with rfl | h
    · rw [dig_nat]; omega
    · exact digs_plain k n b h
theorem right_file (n : Nat) : rightL (fileL n) = true := by
  rw [← restR_0, fileL, restR_step 0 _ (by rw [size_plain (by decide)]; omega) (name_plain (by decide)) (fun _ => by show (119 : UInt8).toNat ≠ 45; decide), size_plain (by decide)]
  show restR 1 (digsL 12 n) = true
  rw [plain_restR _ 1 (digs_plain 12 n) (by omega), digsL_len]
  exact decide_eq_true (by omega)

/-- A log: its first and last segment, the last one's size. -/
structure Lg where
  first : Nat
  last : Nat
  size : Nat
/-- So many segments are removed, from the k-th on. -/
def remsS : Nat → Nat → St → Int × St
  | 0, _, s => (0, s)
  | n + 1, k, s => if (removeS (fileL k) s).1 ≠ 0 then removeS (fileL k) s else remsS n (k + 1) (removeS (fileL k) s).2
def startT (l : List Rc) : List UInt8 := headL l.length ++ framesL l
/-- Start, where there is a greater number. -/
def startW (l : List Rc) (L : Lg) (s : St) : Int × St :=
  if (appendS (fileL (L.last + 1)) (startT l) s).1 ≠ 0 then appendS (fileL (L.last + 1)) (startT l) s
  else if (syncS (fileL (L.last + 1)) (appendS (fileL (L.last + 1)) (startT l) s).2).1 ≠ 0 then syncS (fileL (L.last + 1)) (appendS (fileL (L.last + 1)) (startT l) s).2
  else remsS (if L.first = 0 then 0 else L.last + 1 - L.first) L.first (syncS (fileL (L.last + 1)) (appendS (fileL (L.last + 1)) (startT l) s).2).2
def startL (l : List Rc) (L : Lg) : Lg := ⟨L.last + 1, L.last + 1, (startT l).length⟩
/-- Append of some records to a log with a segment, where there is a greater number. -/
def appendW (l : List Rc) (L : Lg) (s : St) : Int × St :=
  if 2048 ≤ L.size then (if (syncS (fileL L.last) s).1 ≠ 0 then syncS (fileL L.last) s else appendS (fileL (L.last + 1)) (framesL l) (syncS (fileL L.last) s).2)
  else appendS (fileL L.last) (framesL l) s
def appendL (l : List Rc) (L : Lg) : Lg := if 2048 ≤ L.size then ⟨L.first, L.last + 1, (framesL l).length⟩ else ⟨L.first, L.last, L.size + (framesL l).length⟩

theorem burn_files (s : St) : (burnS s).files = s.files := rfl
theorem burn_room (s : St) : (burnS s).room = s.room := rfl
theorem burn_neg {s : St} (h : s.fuse < 0) : (burnS s).fuse = s.fuse := if_neg (by omega)
theorem burn_off {s : St} (ho : s.off = false) (h : (burnS s).off = true) : 0 ≤ s.fuse := by
  unfold burnS at h
  simp only [ho, Bool.false_or, decide_eq_true_eq] at h
  omega
theorem burn_two {s : St} {l : List Fl} (_ : s.off = false) (h1 : ¬ (burnS s).off = true) (h : (burnS { burnS s with files := l }).off = true) : 0 ≤ s.fuse := by
  have h2 := burn_off (s := { burnS s with files := l }) (off_false h1) h
  rcases Int.lt_or_le s.fuse 0 with h3 | h3
  · have : (burnS s).fuse = s.fuse := burn_neg h3
    have h4 : 0 ≤ (burnS s).fuse := h2
    omega
  · exact h3
/-- A log with these segments. -/
structure LogS (F c : Nat) (ini : List (List Rc)) (rs : List Rc) (dl : Nat) (s : St) : Prop where
  files : s.files = filesOf F c ini rs dl
  most : F + ini.length ≤ mostS
  dl : dl ≤ rs.length
/-- The log as the program holds it. -/
def lgOf (F c : Nat) (ini : List (List Rc)) (rs : List Rc) : Lg := ⟨F, F + ini.length, (bodyB F c (F + ini.length) rs).length⟩
theorem bodyB_more (F c j : Nat) (rs x : List Rc) : (bodyB F c j (rs ++ x)).length = (bodyB F c j rs).length + (framesL x).length := by rw [bodyB_append, List.length_append]
/-- What Append leaves: all of it, or nothing that is seen. -/
theorem append_w {F c : Nat} {ini : List (List Rc)} {rs x : List Rc} {dl : Nat} {s : St} (h : LogS F c ini rs dl s) (hb : F + ini.length < mostS) (hoff : s.off = false) (hroom : ((usedL s.files + (framesL x).length : Nat) : Int) ≤ s.room) :
    ((appendW x (lgOf F c ini rs) s).1 = 0 ∧ (appendW x (lgOf F c ini rs) s).2.off = false ∧ (appendW x (lgOf F c ini rs) s).2.room = s.room ∧ (s.fuse < 0 → (appendW x (lgOf F c ini rs) s).2.fuse = s.fuse) ∧ ∃ ini' rs' dl', LogS F c ini' rs' dl' (appendW x (lgOf F c ini rs) s).2 ∧ appendL x (lgOf F c ini rs) = lgOf F c ini' rs' ∧
      ((ini' = ini ∧ rs' = rs ++ x ∧ dl' = dl) ∨ (ini' = ini ++ [rs] ∧ rs' = x ∧ dl' = 0))) ∨
    ((appendW x (lgOf F c ini rs) s).1 ≠ 0 ∧ 0 ≤ s.fuse ∧ ∃ dl', LogS F c ini rs dl' (appendW x (lgOf F c ini rs) s).2 ∧ (dl' = dl ∨ dl' = rs.length)) := by
  by_cases hz : 2048 ≤ (lgOf F c ini rs).size
  · have e0 : appendW x (lgOf F c ini rs) s = (if (syncS (fileL (F + ini.length)) s).1 ≠ 0 then syncS (fileL (F + ini.length)) s else appendS (fileL (F + ini.length + 1)) (framesL x) (syncS (fileL (F + ini.length)) s).2) := if_pos hz
    have e1 : appendL x (lgOf F c ini rs) = ⟨F, F + ini.length + 1, (framesL x).length⟩ := if_pos hz
    rw [e0, e1, sync_last h.files h.most hoff]
    by_cases hbn : (burnS s).off = true
    · rw [if_pos hbn]
      simp only [ne_eq, Int.reduceEq, not_false_eq_true, if_true]
      exact .inr ⟨trivial, burn_off hoff hbn, dl, ⟨h.files, h.most, h.dl⟩, .inl rfl⟩
    · rw [if_neg hbn]
      simp only [ne_eq, not_true_eq_false, if_false]
      have hsz : usedL (filesOf F c ini rs rs.length) = usedL s.files := by
        rw [h.files]
        unfold filesOf lastF
        rw [usedL_append, usedL_append]
        simp only [usedL, sizeF, ← List.length_append, List.take_length, List.drop_length, framesL_nil, List.append_nil, ← bodyB_append, List.take_append_drop]
      have hp := put_new (F := F) (c := c) (ini := ini) (f := lastF F c (F + ini.length) rs rs.length) (b := framesL x) (s := { burnS s with files := filesOf F c ini rs rs.length }) rfl rfl hb (off_false hbn) (right_file _) (by simp only; rw [hsz]; exact hroom)
      rw [hp]
      by_cases hb2 : (burnS { burnS s with files := filesOf F c ini rs rs.length }).off = true
      · rw [if_pos hb2]
        exact .inr ⟨(by decide : (7 : Int) ≠ 0), burn_two hoff hbn hb2, rs.length, ⟨rfl, h.most, Nat.le_refl _⟩, .inr rfl⟩
      · rw [if_neg hb2]
        refine .inl ⟨rfl, off_false hb2, rfl, fun hn => (burn_neg (by show (burnS s).fuse < 0; rw [burn_neg hn]; exact hn)).trans (burn_neg hn), ini ++ [rs], x, 0, ⟨files_turn x, by rw [List.length_append]; simp; omega, Nat.zero_le _⟩, ?_, .inr ⟨rfl, rfl, rfl⟩⟩
        unfold lgOf bodyB
        rw [List.length_append, if_neg (by simp)]
        rfl
  · have e0 : appendW x (lgOf F c ini rs) s = appendS (fileL (F + ini.length)) (framesL x) s := if_neg hz
    have e1 : appendL x (lgOf F c ini rs) = ⟨F, F + ini.length, (bodyB F c (F + ini.length) rs).length + (framesL x).length⟩ := if_neg hz
    rw [e0, e1, put_last h.files h.most h.dl hoff (right_file _) hroom]
    by_cases hbn : (burnS s).off = true
    · rw [if_pos hbn]
      exact .inr ⟨(by decide : (7 : Int) ≠ 0), burn_off hoff hbn, dl, ⟨h.files, h.most, h.dl⟩, .inl rfl⟩
    · rw [if_neg hbn]
      exact .inl ⟨rfl, off_false hbn, rfl, fun hn => burn_neg hn, ini, rs ++ x, dl, ⟨rfl, h.most, by rw [List.length_append]; have := h.dl; omega⟩, by unfold lgOf; rw [bodyB_more], .inl ⟨rfl, rfl, rfl⟩⟩
theorem sync_w {F c : Nat} {ini : List (List Rc)} {rs : List Rc} {dl : Nat} {s : St} (h : LogS F c ini rs dl s) (hoff : s.off = false) :
    ((syncS (fileL (F + ini.length)) s).1 = 0 ∧ (syncS (fileL (F + ini.length)) s).2.off = false ∧ (syncS (fileL (F + ini.length)) s).2.room = s.room ∧ (s.fuse < 0 → (syncS (fileL (F + ini.length)) s).2.fuse = s.fuse) ∧ LogS F c ini rs rs.length (syncS (fileL (F + ini.length)) s).2) ∨
    ((syncS (fileL (F + ini.length)) s).1 ≠ 0 ∧ 0 ≤ s.fuse ∧ LogS F c ini rs dl (syncS (fileL (F + ini.length)) s).2) := by
  rw [sync_last h.files h.most hoff]
  by_cases hbn : (burnS s).off = true
  · rw [if_pos hbn]
    exact .inr ⟨(by decide : (7 : Int) ≠ 0), burn_off hoff hbn, h.files, h.most, h.dl⟩
  · rw [if_neg hbn]
    exact .inl ⟨rfl, off_false hbn, rfl, fun hn => burn_neg hn, rfl, h.most, Nat.le_refl _⟩
theorem used_files {F c : Nat} {ini : List (List Rc)} {rs : List Rc} {dl : Nat} : usedL (filesOf F c ini rs dl) = (headL c).length + (framesL (ini.flatten ++ rs)).length := by
  have key : ∀ (j : Nat) (ss : List (List Rc)), F < j → usedL (fulls F c j ss) = (framesL ss.flatten).length := by
    intro j ss
    induction ss generalizing j with
    | nil => intro _; rfl
    | cons x ss ih =>
      intro hj
      rw [fulls, usedL, ih (j + 1) (by omega), List.flatten_cons, framesL_append, List.length_append]
      unfold sizeF bodyB
      simp only
      rw [if_neg (by omega)]
      simp
  have hlast : ∀ j, usedL [lastF F c j rs dl] = (bodyB F c j rs).length := fun j => by
    unfold usedL usedL sizeF lastF
    simp only [Nat.add_zero]
    rw [← List.length_append, ← bodyB_append, List.take_append_drop]
  unfold filesOf
  rw [usedL_append, hlast, framesL_append, List.length_append]
  cases ini with
  | nil =>
    unfold bodyB
    rw [if_pos (by rfl), List.length_append]
    simp [fulls, usedL, framesL]
  | cons x ini =>
    rw [fulls, usedL, key (F + 1) ini (by omega), List.flatten_cons, framesL_append, List.length_append]
    unfold sizeF bodyB
    simp only
    rw [if_pos trivial, if_neg (by simp)]
    simp only [List.length_append, List.length_nil, List.nil_append]
    omega
end Go.Proofs.YtdneobnnmmlebaaGreatDoor
