/-
  A printable form taken apart, as a function on its runes; no program is walked here.
-/
import Derived.Test.YtidacifgnaohjaaPln
import Derived.Test.YtidacifgnaohjaaIdx
namespace Go.Proofs.Ytidacifgnaohjaa

/-- The rune that the decoder tells of a piece. -/
def toldQ (q : List UInt8 × Bool) : Nat := if q.2 = true then codeL q.1 else 65533
/-- The text that the pieces stand for; c: what the digits so far come to, m: how many are to come. -/
def unS : List (List UInt8 × Bool) → Nat → Nat → Option (List UInt8)
  | [], _, m => if m = 0 then some [] else none
  | q :: qs, c, m =>
    if m = 0 then
      if toldQ q = 92 then unS qs 0 2
      else if (q.2 && showN (toldQ q)) = true then (unS qs c 0).map (q.1 ++ ·) else none
    else if hexI (toldQ q) < 0 then none
    else if m = 1 then (unS qs (c * 16 + (hexI (toldQ q)).toNat) 0).map (UInt8.ofNat (c * 16 + (hexI (toldQ q)).toNat) :: ·)
    else unS qs (c * 16 + (hexI (toldQ q)).toNat) (m - 1)
/-- The digits behind an escape's end count no more. -/
theorem unS_any : ∀ (qs : List (List UInt8 × Bool)) (c d : Nat), unS qs c 0 = unS qs d 0
  | [], _, _ => rfl
  | q :: qs, c, d => by
    simp only [unS, if_pos]
    rw [unS_any qs c d]
/-- What is there, and what the rest stands for. -/
@[irreducible] def unF (o r : List UInt8) (c m : Nat) : Option (List UInt8) := (unS (piecesL r) c m).map (o ++ ·)
theorem unF_0 (l : List UInt8) : unF [] l 0 0 = unS (piecesL l) 0 0 := by
  unfold unF; cases unS (piecesL l) 0 0 <;> simp
theorem unF_nil (o : List UInt8) (c m : Nat) : unF o [] c m = if m = 0 then some o else none := by
  unfold unF
  rw [pieces_nil]
  unfold unS
  by_cases h : m = 0
  · rw [if_pos h, if_pos h]; simp
  · rw [if_neg h, if_neg h]; rfl
theorem toldQ_piece (r : List UInt8) : toldQ (r.take (widthL r), decide (sizeL r ≠ 0)) = toldL r := by
  unfold toldQ
  by_cases hs : sizeL r = 0
  · rw [if_neg (by simp [hs])]; unfold toldL; rw [if_pos hs]
  · rw [if_pos (by simp [hs])]
    show codeL (r.take (widthL r)) = _
    unfold widthL
    rw [show max 1 (sizeL r) = sizeL r by omega, code_take r hs]
theorem unF_hexno (o r : List UInt8) (c m : Nat) (h : r ≠ []) (hm : 0 < m) (hd : hexI (toldL r) < 0) : unF o r c m = none := by
  unfold unF
  rw [pieces_told r h]
  unfold unS
  rw [toldQ_piece, if_neg (by omega), if_pos hd]; rfl
theorem unF_hex2 (o r : List UInt8) (c m d : Nat) (h : r ≠ []) (hm : 1 < m) (hd : hexI (toldL r) = (d : Int)) : unF o r c m = unF o (r.drop (widthL r)) (c * 16 + d) (m - 1) := by
  unfold unF
  rw [pieces_told r h, unS, toldQ_piece, if_neg (by omega), hd, if_neg (by omega), if_neg (by omega)]; rfl
theorem unF_hex1 (o r : List UInt8) (c d : Nat) (h : r ≠ []) (hd : hexI (toldL r) = (d : Int)) : unF o r c 1 = unF (o ++ [UInt8.ofNat (c * 16 + d)]) (r.drop (widthL r)) (c * 16 + d) 0 := by
  unfold unF
  rw [pieces_told r h, unS, toldQ_piece, if_neg (by omega), hd, if_neg (by omega), if_pos rfl, Option.map_map]
  congr 1
  funext x
  simp
theorem unF_slash (o r : List UInt8) (c : Nat) (h : r ≠ []) (ht : toldL r = 92) : unF o r c 0 = unF o (r.drop (widthL r)) 0 2 := by
  unfold unF
  rw [pieces_told r h, unS, toldQ_piece, if_pos rfl, if_pos ht]
theorem unF_no (o r : List UInt8) (c : Nat) (h : r ≠ []) (ht : toldL r ≠ 92) (hb : sizeL r = 0 ∨ showN (toldL r) = false) : unF o r c 0 = none := by
  unfold unF
  rw [pieces_told r h, unS, toldQ_piece, if_pos rfl, if_neg ht, if_neg (by
    rcases hb with hb | hb
    · simp [hb]
    · simp [hb])]; rfl
theorem unF_self (o r : List UInt8) (c : Nat) (h : r ≠ []) (ht : toldL r ≠ 92) (hb : sizeL r ≠ 0) (hn : showN (toldL r) = true) : unF o r c 0 = unF (o ++ r.take (widthL r)) (r.drop (widthL r)) c 0 := by
  unfold unF
  rw [pieces_told r h, unS, toldQ_piece, if_pos rfl, if_neg ht, if_pos (by simp [hb, hn]), Option.map_map]
  congr 1
  funext x
  simp

theorem codeL_1 (b : UInt8) (h : b.toNat ≤ 127) : codeL [b] = b.toNat := by
  have := (codeL_one (l := [b]) (by have := (whole_one b h).2; simpa using this)).2
  exact this
theorem hexI_hexB (n : Nat) (h : n < 16) : hexI (hexB n).toNat = (n : Int) := by
  rw [hexB_toNat n h]
  unfold hexI
  by_cases h10 : n < 10
  · rw [if_pos h10, if_pos (by omega)]; omega
  · rw [if_neg h10, if_neg (by omega), if_pos (by omega)]; omega
theorem unS_esc (b : UInt8) (qs : List (List UInt8 × Bool)) (c : Nat) : unS (((escP b).map fun p => (p, true)) ++ qs) c 0 = (unS qs 0 0).map (b :: ·) := by
  have hb := b.toNat_lt
  show unS (([92], true) :: ([hexB (b.toNat / 16)], true) :: ([hexB (b.toNat % 16)], true) :: qs) c 0 = _
  have t0 : toldQ ([92], true) = 92 := by unfold toldQ; rw [if_pos rfl]; exact codeL_1 92 (by decide)
  have t1 : toldQ ([hexB (b.toNat / 16)], true) = (hexB (b.toNat / 16)).toNat := by unfold toldQ; rw [if_pos rfl]; exact codeL_1 _ (hexB_le _ (by omega))
  have t2 : toldQ ([hexB (b.toNat % 16)], true) = (hexB (b.toNat % 16)).toNat := by unfold toldQ; rw [if_pos rfl]; exact codeL_1 _ (hexB_le _ (by omega))
  rw [unS, if_pos rfl, t0, if_pos rfl, unS, if_neg (by omega), t1, hexI_hexB _ (by omega), if_neg (by omega), if_neg (by omega), unS, if_neg (by omega), t2, hexI_hexB _ (by omega), if_neg (by omega), if_pos (by omega)]
  rw [show (0 * 16 + ((b.toNat / 16 : Nat) : Int).toNat) * 16 + ((b.toNat % 16 : Nat) : Int).toNat = b.toNat by omega, UInt8.ofNat_toNat, unS_any qs b.toNat 0]
theorem unS_escs (p : List UInt8) (qs : List (List UInt8 × Bool)) (c : Nat) : unS (((p.flatMap escP).map fun p => (p, true)) ++ qs) c 0 = (unS qs 0 0).map (p ++ ·) := by
  induction p generalizing c with
  | nil => simp [unS_any qs c 0]
  | cons b p ih =>
    rw [List.flatMap_cons, List.map_append, List.append_assoc, unS_esc, ih, Option.map_map]
    congr 1
/-- A printable form stands for what it is the form of. -/
theorem unS_plain (l : List UInt8) : unS (piecesL (plainL l)) 0 0 = some l := by
  rw [pieces_plain]
  induction l using piece_ind with
  | h0 => rfl
  | h1 b r hs ih =>
    have e : plainP (b :: r) = escP b ++ plainP r := by
      unfold plainP
      rw [pieces_bad b r hs, List.flatMap_cons]
      simp [plainR]
    rw [e, List.map_append, unS_esc, ih]; rfl
  | h2 p r hp ih =>
    have e : plainP (p ++ r) = plainR (p, true) ++ plainP r := by
      unfold plainP
      rw [pieces_whole p r hp, List.flatMap_cons]
    rw [e, List.map_append]
    unfold plainR
    by_cases hs : selfL p = true
    · rw [if_pos (by simp [hs])]
      have hsh : showN (codeL p) = true := by unfold showN; rw [← selfL_code p hp]; exact hs
      have h92 : codeL p ≠ 92 := fun h => by rw [h] at hsh; unfold showN at hsh; simp at hsh
      show unS ((p, true) :: List.map (fun p => (p, true)) (plainP r)) 0 0 = _
      rw [unS, if_pos rfl, show toldQ (p, true) = codeL p from rfl, if_neg h92, if_pos (by rw [hsh]; rfl), ih]; rfl
    · rw [if_neg (by simp [hs]), unS_escs, ih]; rfl
/-- The text whose printable form this one is, if there is one. -/
def backO (l : List UInt8) : Option (List UInt8) := match unS (piecesL l) 0 0 with
  | some t => if plainL t = l then some t else none
  | none => none
theorem backO_plain (l : List UInt8) : backO (plainL l) = some l := by
  unfold backO; rw [unS_plain]; simp
theorem backO_some (l t : List UInt8) (h : backO l = some t) : plainL t = l := by
  unfold backO at h
  split at h
  · split at h
    · rename_i e; injection h with h; rw [← h]; exact e
    · cases h
  · cases h
end Go.Proofs.Ytidacifgnaohjaa
