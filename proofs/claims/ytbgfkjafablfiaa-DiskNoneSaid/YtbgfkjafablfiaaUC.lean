/-
  Texts for eyes and names as functions on lists, and what the chapter promises of them; no program is walked here.
-/
import Derived.Test.YtbgfkjafablfiaaUB
namespace Go.Proofs.Ytbgfkjafablfiaa

/-- A hexadecimal digit, and its value. -/
def hexB (n : Nat) : UInt8 := UInt8.ofNat (if n < 10 then 48 + n else 87 + n)
def unhexN (n : Nat) : Nat := if n < 58 then n - 48 else n - 87
theorem hexB_toNat (n : Nat) (h : n < 16) : (hexB n).toNat = if n < 10 then 48 + n else 87 + n := by
  unfold hexB
  rw [UInt8.toNat_ofNat']
  split <;> omega
theorem unhex_hex (n : Nat) (h : n < 16) : unhexN (hexB n).toNat = n := by
  rw [hexB_toNat n h]
  unfold unhexN
  split <;> split <;> omega
/-- A byte as three. -/
def escB (b : UInt8) : List UInt8 := [92, hexB (b.toNat / 16), hexB (b.toNat % 16)]
def escP (b : UInt8) : List (List UInt8) := [[92], [hexB (b.toNat / 16)], [hexB (b.toNat % 16)]]
def plainQ (q : List UInt8 × Bool) : List UInt8 := if (q.2 && selfL q.1) = true then q.1 else q.1.flatMap escB
/-- The text for eyes. -/
def plainL (l : List UInt8) : List UInt8 := (piecesL l).flatMap plainQ
def plainR (q : List UInt8 × Bool) : List (List UInt8) := if (q.2 && selfL q.1) = true then [q.1] else q.1.flatMap escP
/-- Its runes. -/
def plainP (l : List UInt8) : List (List UInt8) := (piecesL l).flatMap plainR
theorem esc_flat (p : List UInt8) : (p.flatMap escP).flatten = p.flatMap escB := by
  induction p with
  | nil => rfl
  | cons b p ih => rw [List.flatMap_cons, List.flatMap_cons, List.flatten_append, ih]; rfl
theorem plainR_flat (q : List UInt8 × Bool) : (plainR q).flatten = plainQ q := by
  unfold plainR plainQ
  split
  · simp
  · exact esc_flat q.1
theorem plainL_flat (l : List UInt8) : plainL l = (plainP l).flatten := by
  unfold plainL plainP
  induction piecesL l with
  | nil => rfl
  | cons q ps ih => rw [List.flatMap_cons, List.flatMap_cons, List.flatten_append, ih, plainR_flat]
theorem whole_one (b : UInt8) (h : b.toNat ≤ 127) : Whole [b] := by
  have hb : byteN [b] 0 = b.toNat := rfl
  rcases sizeL_spec [b] with ⟨g, _⟩ | ⟨g, c⟩ | ⟨g, c⟩ | ⟨g, c⟩ | ⟨g, c, _⟩
  · exact ⟨by omega, by rw [g]; rfl⟩
  · have := c.1; simp at this
  · have := c.1; simp at this
  · have := c.1; simp at this
  · exact absurd ⟨by simp, by omega⟩ c
theorem hexB_le (n : Nat) (h : n < 16) : (hexB n).toNat ≤ 127 := by rw [hexB_toNat n h]; split <;> omega
theorem escP_whole (b : UInt8) : ∀ p ∈ escP b, Whole p := by
  have hb := b.toNat_lt
  intro p hp
  simp only [escP, List.mem_cons, List.not_mem_nil, or_false] at hp
  rcases hp with rfl | rfl | rfl
  · exact whole_one 92 (by decide)
  · exact whole_one _ (hexB_le _ (by omega))
  · exact whole_one _ (hexB_le _ (by omega))
theorem plainP_whole (l : List UInt8) : ∀ p ∈ plainP l, Whole p := by
  intro p hp
  obtain ⟨q, hq, hp⟩ := List.mem_flatMap.1 hp
  unfold plainR at hp
  split at hp
  · rename_i hc
    simp only [Bool.and_eq_true] at hc
    obtain rfl : p = q.1 := by simpa using hp
    exact (pieces_each l q hq).1 hc.1
  · obtain ⟨b, _, hp⟩ := List.mem_flatMap.1 hp
    exact escP_whole b p hp
/-- A text for eyes is UTF-8. -/
theorem pieces_plain (l : List UInt8) : piecesL (plainL l) = (plainP l).map fun p => (p, true) := by
  rw [plainL_flat]; exact pieces_list _ (plainP_whole l)
theorem plain_valid (l : List UInt8) : AllV (plainL l) := by
  unfold AllV
  rw [pieces_plain]
  intro q hq
  obtain ⟨p, _, rfl⟩ := List.mem_map.1 hq
  rfl
theorem plain_count (l : List UInt8) : 0 ≤ countL (plainL l) := by
  have := countL_neg (plainL l)
  have h := plain_valid l
  by_cases hc : countL (plainL l) < 0
  · exact absurd h (this.1 hc)
  · omega

/-- What has such runes for eyes. -/
def unP : List (List UInt8) → List UInt8
  | [] => []
  | [p] => p
  | [p, q] => p ++ q
  | p :: q :: r :: ps => if p = [92] then UInt8.ofNat (16 * unhexN (byteN q 0) + unhexN (byteN r 0)) :: unP ps else p ++ unP (q :: r :: ps)
theorem unP_self (p : List UInt8) (h : p ≠ [92]) : ∀ ps, unP (p :: ps) = p ++ unP ps
  | [] => by simp [unP]
  | [q] => by simp [unP]
  | q :: r :: ps => by rw [unP, if_neg h]
theorem unP_esc (b : UInt8) (ps : List (List UInt8)) : unP (escP b ++ ps) = b :: unP ps := by
  have hb := b.toNat_lt
  show unP ([92] :: [hexB (b.toNat / 16)] :: [hexB (b.toNat % 16)] :: ps) = _
  rw [unP, if_pos rfl]
  have e1 : byteN [hexB (b.toNat / 16)] 0 = (hexB (b.toNat / 16)).toNat := rfl
  have e2 : byteN [hexB (b.toNat % 16)] 0 = (hexB (b.toNat % 16)).toNat := rfl
  rw [e1, e2, unhex_hex _ (by omega), unhex_hex _ (by omega), show 16 * (b.toNat / 16) + b.toNat % 16 = b.toNat by omega, UInt8.ofNat_toNat]
theorem unP_escs (p : List UInt8) (ps : List (List UInt8)) : unP (p.flatMap escP ++ ps) = p ++ unP ps := by
  induction p with
  | nil => rfl
  | cons b p ih => rw [List.flatMap_cons, List.append_assoc, unP_esc, ih]; rfl
theorem selfL_slash : selfL [92] = false := by decide
theorem unP_plain (l : List UInt8) : unP (plainP l) = l := by
  induction l using piece_ind with
  | h0 => rfl
  | h1 b r hs ih =>
    have e : plainP (b :: r) = escP b ++ plainP r := by
      unfold plainP
      rw [pieces_bad b r hs, List.flatMap_cons]
      simp [plainR]
    rw [e, unP_esc, ih]
  | h2 p r hp ih =>
    have e : plainP (p ++ r) = plainR (p, true) ++ plainP r := by
      unfold plainP
      rw [pieces_whole p r hp, List.flatMap_cons]
    rw [e]
    unfold plainR
    by_cases hs : selfL p = true
    · rw [if_pos (by simp [hs])]
      have : p ≠ [92] := fun h => by rw [h, selfL_slash] at hs; cases hs
      rw [List.singleton_append, unP_self p this, ih]
    · rw [if_neg (by simp [hs]), unP_escs, ih]
/-- The text that has this one for eyes, if any has. -/
def backL (l : List UInt8) : List UInt8 := unP ((piecesL l).map (·.1))
theorem back_plain (l : List UInt8) : backL (plainL l) = l := by
  unfold backL
  rw [pieces_plain, List.map_map]
  have : (plainP l).map ((fun q : List UInt8 × Bool => q.1) ∘ fun p => (p, true)) = plainP l := by
    rw [show ((fun q : List UInt8 × Bool => q.1) ∘ fun p : List UInt8 => (p, true)) = id from rfl, List.map_id]
  rw [this, unP_plain]
/-- Unlike texts have unlike ones. -/
theorem plain_inj (s t : List UInt8) (h : plainL s = plainL t) : s = t := by rw [← back_plain s, h, back_plain]
/-- A text is one for eyes just if the text that it tells has it. -/
theorem plain_iff (l : List UInt8) : (∃ u, plainL u = l) ↔ plainL (backL l) = l :=
  ⟨fun ⟨u, h⟩ => by rw [← h, back_plain], fun h => ⟨_, h⟩⟩

/-- A byte that is no control byte. -/
def Shown (b : UInt8) : Prop := 32 ≤ b.toNat ∧ b.toNat ≠ 127
theorem whole_bytes (p : List UInt8) (h : Whole p) (h1 : 1 < p.length) : ∀ b ∈ p, 128 ≤ b.toNat := by
  obtain ⟨h0, hl⟩ := h
  have get : ∀ j, j < p.length → ∀ b, p[j]? = some b → b.toNat = byteN p j := fun j _ b hb => by unfold byteN; rw [List.getD_eq_getElem?_getD, hb]; rfl
  intro b hb
  obtain ⟨j, hj⟩ := List.getElem?_of_mem hb
  have hjl := (List.getElem?_eq_some_iff.1 hj).1
  rw [get j hjl b hj]
  rcases sizeL_spec p with ⟨g, _⟩ | ⟨g, c⟩ | ⟨g, c⟩ | ⟨g, c⟩ | ⟨g, _⟩
  · omega
  · unfold Two at c
    have : j = 0 ∨ j = 1 := by omega
    rcases this with rfl | rfl <;> omega
  · unfold Three at c
    have : j = 0 ∨ j = 1 ∨ j = 2 := by omega
    rcases this with rfl | rfl | rfl <;> omega
  · unfold Four at c
    have : j = 0 ∨ j = 1 ∨ j = 2 ∨ j = 3 := by omega
    rcases this with rfl | rfl | rfl | rfl <;> omega
  · omega
theorem hexB_shown (n : Nat) (h : n < 16) : Shown (hexB n) := by
  unfold Shown
  rw [hexB_toNat n h]
  split <;> omega
theorem plain_shown (l : List UInt8) : ∀ b ∈ plainL l, Shown b := by
  intro b hb
  obtain ⟨q, hq, hb⟩ := List.mem_flatMap.1 hb
  unfold plainQ at hb
  split at hb
  · rename_i hc
    simp only [Bool.and_eq_true] at hc
    have hw := (pieces_each l q hq).1 hc.1
    by_cases h1 : q.1.length = 1
    · have hs := hc.2
      unfold selfL at hs
      rw [if_pos h1] at hs
      simp only [decide_eq_true_eq] at hs
      obtain ⟨c, hc'⟩ := List.length_eq_one_iff.1 h1
      rw [hc'] at hb hs
      obtain rfl : b = c := by simpa using hb
      have : byteN [b] 0 = b.toNat := rfl
      unfold Shown
      omega
    · have := whole_bytes q.1 hw (by have := hw.1; have := hw.2; omega) b hb
      unfold Shown
      omega
  · obtain ⟨c, _, hb⟩ := List.mem_flatMap.1 hb
    have hc := c.toNat_lt
    simp only [escB, List.mem_cons, List.not_mem_nil, or_false] at hb
    rcases hb with rfl | rfl | rfl
    · unfold Shown; decide
    · exact hexB_shown _ (by omega)
    · exact hexB_shown _ (by omega)

/-- May a rune, told by its bytes, stand in a name? -/
def nameP (p : List UInt8) : Bool :=
  if p.length = 1 then decide ((97 ≤ byteN p 0 ∧ byteN p 0 ≤ 122) ∨ (48 ≤ byteN p 0 ∧ byteN p 0 ≤ 57) ∨ byteN p 0 = 95 ∨ byteN p 0 = 45) else selfL p
/-- Is it a name? -/
def rightL (l : List UInt8) : Bool := (piecesL l).all (fun q => q.2 && nameP q.1) && decide (1 ≤ (piecesL l).length ∧ (piecesL l).length ≤ 24 ∧ byteN l 0 ≠ 45)
theorem rightL_iff (l : List UInt8) : rightL l = true ↔ (∀ q ∈ piecesL l, q.2 = true ∧ nameP q.1 = true) ∧ 1 ≤ (piecesL l).length ∧ (piecesL l).length ≤ 24 ∧ byteN l 0 ≠ 45 := by
  unfold rightL
  rw [Bool.and_eq_true, List.all_eq_true, decide_eq_true_eq]
  simp only [Bool.and_eq_true]
theorem nameP_self (p : List UInt8) (h : nameP p = true) : selfL p = true := by
  unfold nameP at h
  by_cases h1 : p.length = 1
  · rw [if_pos h1] at h
    unfold selfL
    rw [if_pos h1]
    simp only [decide_eq_true_eq] at h ⊢
    omega
  · rw [if_neg h1] at h
    exact h
/-- A name is its own text for eyes. -/
theorem plain_name (l : List UInt8) (h : rightL l = true) : plainL l = l := by
  obtain ⟨hq, _⟩ := (rightL_iff l).1 h
  have key : ∀ (ps : List (List UInt8 × Bool)), (∀ q ∈ ps, q.2 = true ∧ nameP q.1 = true) → ps.flatMap plainQ = ps.flatMap (·.1) := by
    intro ps
    induction ps with
    | nil => intro _; rfl
    | cons q ps ih =>
      intro hq
      obtain ⟨h1, h2⟩ := hq q (by simp)
      rw [List.flatMap_cons, List.flatMap_cons, ih (fun x hx => hq x (by simp [hx]))]
      unfold plainQ
      rw [if_pos (by rw [h1, nameP_self _ h2]; rfl)]
  unfold plainL
  rw [key _ hq, pieces_flat]
theorem rightL_valid (l : List UInt8) (h : rightL l = true) : AllV l := fun q hq => ((rightL_iff l).1 h).1 q hq |>.1
/-- A name behind a name is one as long as there is room. -/
theorem right_join (s t : List UInt8) (hs : rightL s = true) (ht : rightL t = true) : rightL (s ++ t) = decide (countL s + countL t ≤ 24) := by
  obtain ⟨s1, s2, s3, s4⟩ := (rightL_iff s).1 hs
  obtain ⟨t1, t2, t3, t4⟩ := (rightL_iff t).1 ht
  have hp := pieces_append s t (rightL_valid s hs)
  have cs : countL s = (piecesL s).length := by unfold countL; rw [if_pos ((all_iff s).2 (rightL_valid s hs))]
  have ct : countL t = (piecesL t).length := by unfold countL; rw [if_pos ((all_iff t).2 (rightL_valid t ht))]
  have hne : 0 < s.length := List.length_pos_iff.2 (fun e => by rw [e, pieces_nil] at s2; simp at s2)
  have h0 : byteN (s ++ t) 0 = byteN s 0 := byteN_app s t 0 hne
  have hall : (∀ q ∈ piecesL (s ++ t), q.2 = true ∧ nameP q.1 = true) := by
    rw [hp]
    intro q hq
    rcases List.mem_append.1 hq with h | h
    · exact s1 q h
    · exact t1 q h
  by_cases hn : countL s + countL t ≤ 24
  · rw [decide_eq_true hn, rightL_iff]
    refine ⟨hall, ?_, ?_, by rw [h0]; exact s4⟩ <;> rw [hp, List.length_append] <;> omega
  · rw [decide_eq_false hn]
    cases hr : rightL (s ++ t) with
    | false => rfl
    | true =>
      have := ((rightL_iff _).1 hr).2.2.1
      rw [hp, List.length_append] at this
      omega
end Go.Proofs.Ytbgfkjafablfiaa
