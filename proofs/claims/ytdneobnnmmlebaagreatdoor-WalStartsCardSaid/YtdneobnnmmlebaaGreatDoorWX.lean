/- Texts of one claim, joined: WV WX. -/
import Derived.Test.YtdneobnnmmlebaaGreatDoorWU
/-
  WalStarts, from what it asks of the program's disk and log.
-/
namespace Go.Proofs.YtdneobnnmmlebaaGreatDoor
open Go.RowKit

theorem rem_room (nm : List UInt8) (s : St) : (removeS nm s).2.room = s.room := by
  unfold removeS onS
  split
  · rfl
  · split
    · rfl
    · simp only
      split <;> rfl
theorem startW_room (m l : List Rc) (s : St) : (startW m (lgOf 1 0 [] l) s).2.room = s.room := by
  unfold startW
  split
  · exact app_room _ _ _
  · split
    · rw [sync_room, app_room]
    · show (remsS 1 1 _).2.room = _
      simp only [remsS]
      split
      · rw [rem_room, sync_room, app_room]
      · rw [rem_room, sync_room, app_room]
theorem Most.le {s : St} {u i v j : Nat} (h : Most s u i) (hu : u ≤ v) (hi : i ≤ j) : Most s v j := ⟨Nat.le_trans h.used hu, Nat.le_trans h.len hi, h.room0, h.room1, h.fuse0, h.fuse1⟩
theorem sync_grows (nm : List UInt8) (s : St) : Grows s (syncS nm s).2 0 := by
  have := step_grows 1 nm [] 0 [] s (by unfold I64; omega)
  simpa [stepS] using this
theorem rem_grows (nm : List UInt8) (s : St) : Grows s (removeS nm s).2 0 := by
  have := step_grows 3 nm [] 0 [] s (by unfold I64; omega)
  simpa [stepS] using this
theorem startW_most {m l : List Rc} {s : St} {u i : Nat} (h : Most s u i) : Most (startW m (lgOf 1 0 [] l) s).2 (u + (startT m).length) (i + 3) := by
  unfold startW
  have h1 := h.grows (append_grows (fileL ((lgOf 1 0 [] l).last + 1)) (startT m) s)
  have h2 := h1.grows (sync_grows (fileL ((lgOf 1 0 [] l).last + 1)) _)
  split
  · exact h1.le (Nat.le_refl _) (by omega)
  · split
    · exact h2.le (by omega) (by omega)
    · show Most (remsS 1 1 _).2 _ _
      simp only [remsS]
      split
      · exact (h2.grows (rem_grows _ _)).le (by omega) (by omega)
      · exact (h2.grows (rem_grows _ _)).le (by omega) (by omega)
theorem startT_small {m : List Rc} (h : Small m) (hl : m.length ≤ 40) : (startT m).length ≤ 43000 := by
  unfold startT
  rw [List.length_append]
  have h1 := head_small (n := m.length) (by unfold top; omega)
  have h2 := frames_small h
  omega
theorem log1_fit {recs : List Rc} {L : Lg} {s : St} (h : Log1 recs L s) (hm : Small recs) (hl : recs.length ≤ 100) (h1 : s.room = 8388608) (h2 : s.fuse = -1) : Fit s := by
  have hu := log1_used h
  have h4 := frames_small hm
  refine ⟨by rw [h1]; decide, by rw [h1]; decide, by rw [h2]; decide, by rw [h2]; decide, by omega, ?_⟩
  obtain ⟨F, c, ini, rs, dl, g1, _, _, g4, g5, _⟩ := h
  rw [g1.files]
  unfold filesOf
  rw [List.length_append, fulls_len]
  show ini.length + 1 ≤ _
  omega
theorem came_last {s : St} {recs m : List Rc} {L : Lg} (hr : RiseF s.files) (hc : Came s.files recs) (ht : Tells s.files L.first L.last L.size m) : 1 ≤ L.last ∧ L.last ≤ 3 := by
  obtain ⟨F, c, ini, rs, dl, h1, h2, h3, h4, h5, h6⟩ := hc.ex
  obtain ⟨e1, e2, e3, e4⟩ := tells_unique hr ht h1
  omega

/-- A log, and what holds of the disk below it. -/
structure At (G : GoodD) (V : GoodW G) (B : Nat) (w0 : World) (a x : Addr) (L : Lg) (P : St → Prop) (wr : World) : Prop where
  ex : ∃ F FX s, LogAt G V B wr a F s x FX L ∧ P s
  since : Below B w0 wr
  big : B ≤ wr.heap.size
structure LoneAt (G : GoodD) (B : Nat) (w0 : World) (a : Addr) (P : St → Prop) (wr : World) : Prop where
  ex : ∃ F s, Lon G B wr a F s ∧ P s
  since : Below B w0 wr
  big : B ≤ wr.heap.size
def SaP (l : List Rc) (s : St) : Prop := (∃ dl, LogS 1 0 [] l dl s) ∧ s.off = false ∧ s.room = 8388608 ∧ s.fuse = -1
def SbP (l : List Rc) (s : St) : Prop := s.files = filesOf 1 0 [] l l.length ∧ s.off = false ∧ s.room = 8388608 ∧ s.fuse = -1
def ScP (l : List Rc) (s : St) : Prop := s.files = filesOf 1 0 [] l l.length ∧ s.off = false ∧ s.room = 8388608 ∧ 0 ≤ s.fuse ∧ s.fuse ≤ 7
def SdP (c : Int) (l m : List Rc) (s : St) : Prop := Fit s ∧ s.room = 8388608 ∧ ∀ keep, ∃ recs, Came (crashS keep s).files recs ∧ (recs = m ∨ (c ≠ 0 ∧ recs = l))
def SeP (c : Int) (l m : List Rc) (s : St) : Prop := Fit s ∧ s.off = false ∧ s.room = 8388608 ∧ s.fuse = -1 ∧ ∃ recs, Came s.files recs ∧ (recs = m ∨ (c ≠ 0 ∧ recs = l))
section
variable {G : GoodD} {V : GoodW G} {B : Nat} {w0 wr w' : World} {a x : Addr} {L : Lg} {P : St → Prop} {l m : List Rc}
theorem At.below (h : At G V B w0 a x L P wr) (hb : Below wr.heap.size wr w') : At G V B w0 a x L P w' := by
  obtain ⟨⟨F, FX, s, h1, h2⟩, hs, hbg⟩ := h
  exact ⟨⟨F, FX, s, h1.below hbg hb, h2⟩, hs.trans (hb.mono hbg), Nat.le_trans hbg hb.size⟩
theorem SaP.most {s : St} (h : SaP l s) (hm : Small l) (hl : l.length ≤ 40) : Most s 43000 1 := by
  obtain ⟨⟨dl, h1⟩, h2, h3, h4⟩ := h
  have hu : usedL s.files = (headL 0).length + (framesL l).length := by rw [h1.files, used_files]; rfl
  have h5 := head_small (n := 0) (by unfold top; omega)
  have h6 := frames_small hm
  refine ⟨by omega, ?_, by rw [h3]; decide, by rw [h3]; decide, by rw [h4]; decide, by rw [h4]; decide⟩
  rw [h1.files]; exact Nat.le_refl _
theorem SaP.fit {s : St} (h : SaP l s) (hm : Small l) (hl : l.length ≤ 40) : Fit s := (h.most hm hl).fit (by omega) (by omega)
theorem begun_sa : SaP [] (begunS [] 8388608) := ⟨⟨0, fresh_log [], by unfold mostS; simp, Nat.le_refl _⟩, rfl, rfl, rfl⟩
theorem At.put (h : At G V B w0 a x (lgOf 1 0 [] []) (SaP []) wr) (hm : Small l) (hl : l.length ≤ 40) (A : Option Addr) (n cap : Nat) (hn : l.length = n) (hrow : RowAt wr A (rcC l)) (hA : ∀ g off, A = some (⟨g, off, none⟩ : Addr) → 0 < n → g < B) :
    Calls Tryz.prog 13 #[.pointer (some x), .slice A n cap] wr fun e w' => e = .returned (.int .i64 0) ∧ At G V B w0 a x (lgOf 1 0 [] l) (SaP l) w' := by
  by_cases h0 : n = 0
  · subst h0
    obtain rfl := List.eq_nil_of_length_eq_zero hn
    obtain ⟨F, FX, s, h1, h2⟩ := h.ex
    refine (V.append0 A cap x a FX _ wr h1.x (Nat.le_refl _)).mono ?_
    rintro e w' ⟨rfl, hb⟩
    exact ⟨rfl, h.below hb⟩
  · obtain ⟨⟨F, FX, s, h1, h2⟩, hs, hbg⟩ := h
    have hf := h2.fit (fun _ h => by cases h) (Nat.zero_le _)
    have hmo := h2.most (fun _ h => by cases h) (Nat.zero_le _)
    obtain ⟨⟨dl, g1⟩, g2, g3, g4⟩ := h2
    have h6 := frames_small hm
    have hu := hmo.used
    refine (h1.appends hbg hf g2 l A n cap hm.right hn (by omega) hrow (fun g off e h0 => by
      have := hA g off e h0
      exact ⟨fun hk => by have := h1.base g hk; omega, fun hk => by have := h1.basex g hk; omega⟩) (by omega) (Nat.le_refl _) (by show 1 < mostS; unfold mostS; decide)).mono ?_
    rintro e w' ⟨rfl, F', FX', hl', hx', ho, _, _, hb, hz⟩
    rcases append_w (x := l) g1 (by unfold mostS; simp) g2 (by rw [g3]; omega) with ⟨a1, a2, a3, a4, ini', rs', dl', a5, a6, a7⟩ | ⟨_, a2, _⟩
    · have hsz : (lgOf 1 0 [] []).size < 2048 := by
        have := head_small (n := 0) (by unfold top; omega)
        show (bodyB 1 0 1 []).length < 2048
        unfold bodyB
        rw [framesL_nil]; simp; omega
      have hla : (appendL l (lgOf 1 0 [] [])).last = 1 := by
        unfold appendL
        rw [if_neg (by omega)]; rfl
      rcases a7 with ⟨rfl, rfl, rfl⟩ | ⟨rfl, rfl, rfl⟩
      · rw [a1]
        refine ⟨rfl, ⟨F', FX', _, ?_, ⟨_, a5⟩, a2, a3.trans g3, (a4 (by rw [g4]; decide)).trans g4⟩, hs.trans hb, hz⟩
        have := hx' a1
        rwa [a6] at this
      · rw [a6] at hla
        exact absurd hla (by show ¬ (1 + ([] ++ [[]] : List (List Rc)).length = 1); simp)
    · rw [g4] at a2; exact absurd a2 (by decide)
theorem At.sync (h : At G V B w0 a x (lgOf 1 0 [] l) (SaP l) wr) (hm : Small l) (hl : l.length ≤ 40) :
    Calls Tryz.prog 14 #[.pointer (some x)] wr fun e w' => e = .returned (.int .i64 0) ∧ At G V B w0 a x (lgOf 1 0 [] l) (SbP l) w' := by
  obtain ⟨⟨F, FX, s, h1, h2⟩, hs, hbg⟩ := h
  have hf := h2.fit hm hl
  obtain ⟨⟨dl, g1⟩, g2, g3, g4⟩ := h2
  refine (h1.syncs hbg hf g2 (Nat.le_refl _) (by show 1 ≤ mostS; unfold mostS; decide)).mono ?_
  rintro e w' ⟨rfl, F', FX', hl', hx', ho, _, _, hb, hz⟩
  rcases sync_w g1 g2 with ⟨a1, a2, a3, a4, a5⟩ | ⟨_, a2, _⟩
  · have a1' : (syncS (fileL (lgOf 1 0 [] l).last) s).1 = 0 := a1
    rw [a1']
    exact ⟨rfl, ⟨F', FX', _, hx' a1', a5.files, a2, a3.trans g3, (a4 (by rw [g4]; decide)).trans g4⟩, hs.trans hb, hz⟩
  · rw [g4] at a2; exact absurd a2 (by decide)
theorem At.fuse (h : At G V B w0 a x (lgOf 1 0 [] l) (SbP l) wr) (z : Int) (hz0 : 0 ≤ z ∧ z ≤ 7) :
    Calls Tryz.prog 12 #[.pointer (some a), .int .i64 z] wr fun e w' => e = .returned (.tuple #[]) ∧ At G V B w0 a x (lgOf 1 0 [] l) (ScP l) w' := by
  obtain ⟨⟨F, FX, s, h1, g1, g2, g3, g4⟩, hs, hbg⟩ := h
  refine (h1.lone.ret' hbg (G.fuse z a F s wr h1.d (by unfold I64; omega))).mono ?_
  rintro e w' ⟨rfl, F', hl', ho, hg, hb, hz⟩
  exact ⟨rfl, ⟨F', FX, _, h1.disk hbg hl'.d ho hg, g1, g2, g3, by show 0 ≤ max z (-1); omega, by show max z (-1) ≤ 7; omega⟩, hs.trans hb, hz⟩
theorem At.start (h : At G V B w0 a x (lgOf 1 0 [] l) (ScP l) wr) (hml : Small l) (hll : l.length ≤ 40) (hm : Small m) (hl : m.length ≤ 40) (A : Option Addr) (n cap : Nat) (hn : m.length = n) (hrow : RowAt wr A (rcC m)) (hA : ∀ g off, A = some (⟨g, off, none⟩ : Addr) → 0 < n → g < B) :
    Calls Tryz.prog 11 #[.pointer (some x), .slice A n cap] wr fun e w' => ∃ c : Int, e = .returned (.int .i64 c) ∧ LoneAt G B w0 a (SdP c l m) w' := by
  obtain ⟨⟨F, FX, s, h1, g1, g2, g3, g4, g5⟩, hs, hbg⟩ := h
  have hu : usedL s.files = (headL 0).length + (framesL l).length := by rw [g1, used_files]; rfl
  have h5 := head_small (n := 0) (by unfold top; omega)
  have h6 := frames_small hml
  have h7 := frames_small hm
  have h8 := startT_small hm hl
  have hmo : Most s 43000 1 := ⟨by omega, by rw [g1]; exact Nat.le_refl _, by rw [g3]; decide, by rw [g3]; decide, by omega, by omega⟩
  refine (h1.starts hbg (hmo.fit (by omega) (by omega)) (by have := hmo.len; omega) g2 m A n cap hm.right hn hrow (fun g off e h0 => by
      have := hA g off e h0
      exact ⟨fun hk => by have := h1.base g hk; omega, fun hk => by have := h1.basex g hk; omega⟩) (by omega) (by show 1 < mostS; unfold mostS; decide)).mono ?_
  rintro e w' ⟨rfl, F', FX', hl', _, ho, _, _, hb, hz⟩
  exact ⟨_, rfl, ⟨F', _, hl', (startW_most hmo).fit (by omega) (by omega), (startW_room m l s).trans g3, fun keep => starts_came g1 g2 hml.right hm.right (by unfold top; omega) (by rw [g3]; omega) keep⟩, hs.trans hb, hz⟩
theorem LoneAt.crash {c : Int} (h : LoneAt G B w0 a (SdP c l m) wr) (keep : List Int) (A : Option Addr) (kl kc : Nat) (hk : keep.length = kl) (hrow : RowAt wr A (intC keep)) (hA : ∀ g off, A = some (⟨g, off, none⟩ : Addr) → 0 < kl → g < B) (hI : ∀ z ∈ keep, I64 z) (hkl : kl ≤ 9223372036854775807) :
    Calls Tryz.prog 15 #[.pointer (some a), .slice A kl kc] wr fun e w' => e = .returned (.tuple #[]) ∧ LoneAt G B w0 a (SeP c l m) w' := by
  obtain ⟨⟨F, s, h1, hfit, h4, h5⟩, hs, hbg⟩ := h
  refine (h1.ret' hbg (G.crash keep A kl kc a F s wr h1.d hfit hk hrow (fun g off e h0 hF => by have := hA g off e h0; have := h1.base g hF; omega) hI hkl)).mono ?_
  rintro e w' ⟨rfl, F', hl', _, _, hb, hz⟩
  have hcu := crash_used keep s.files 0
  have hcl := crashL_length keep s.files 0
  exact ⟨rfl, ⟨F', _, hl', ⟨hfit.room0, hfit.room1, by show (-1 : Int) ≤ -1; decide, by show (-1 : Int) ≤ _; decide, Nat.le_trans hcu hfit.used, by show (crashL keep 0 s.files).length ≤ _; rw [hcl]; exact hfit.len⟩, rfl, h4, rfl, h5 keep⟩, hs.trans hb, hz⟩
/-- The log opened behind the crash, and what was told. -/
structure Gt (G : GoodD) (V : GoodW G) (B : Nat) (w0 : World) (a x : Addr) (A : Option Addr) (got recs : List Rc) (L : Lg) (wr : World) : Prop where
  ex : ∃ F FX s, LogAt G V B wr a F s x FX L ∧ Log1 recs L s ∧ s.off = false ∧ s.room = 8388608 ∧ s.fuse = -1 ∧ ∀ g off, A = some (⟨g, off, none⟩ : Addr) → 0 < got.length → g < wr.heap.size ∧ ¬ F g ∧ ¬ FX g
  row : RowAt wr A (rcC got)
  since : Below B w0 wr
  big : B ≤ wr.heap.size
theorem LoneAt.opens {c : Int} (V : GoodW G) (h : LoneAt G B w0 a (SeP c l m) wr) :
    Calls Tryz.prog 10 #[.pointer (some a)] wr fun e w' => ∃ x A n cap recs L, e = .returned (.tuple #[.pointer (some x), .slice A n cap, .int .i64 0]) ∧ recs.length = n ∧ (recs = m ∨ (c ≠ 0 ∧ recs = l)) ∧ 1 ≤ L.last ∧ L.last ≤ 3 ∧ Gt G V B w0 a x A recs recs L w' := by
  obtain ⟨⟨F, s, h1, h2, h3, h4, h5, recs, hc, hor⟩, hs, hbg⟩ := h
  refine (h1.opens V hbg h2 h3 h5).mono ?_
  rintro e w' ⟨x, FX, A, n, cap, F', s', L, m', he, hlog, hok, hm, hn, hr, _, _, _, hA, hb, hz⟩
  have hrise := G.rise h1.d
  obtain ⟨e1, e2⟩ := came_log hrise hc hok.tells hok.opened
  obtain ⟨k1, k2⟩ := came_last hrise hc hok.tells
  subst e1
  refine ⟨x, A, n, cap, m', L, he, hm, hor, k1, k2, ⟨F', FX, s', hlog, e2, hok.off, hok.room.trans h4, hok.fuse.trans h5, fun g off e h0 => ⟨row_block hr (by rw [rcC_length]; omega) e, (hA g off e (by omega)).2⟩⟩, hr, hs.trans hb, hz⟩
variable {A : Option Addr} {got recs : List Rc}
theorem Gt.below (h : Gt G V B w0 a x A got recs L wr) (hb : Below wr.heap.size wr w') : Gt G V B w0 a x A got recs L w' := by
  obtain ⟨⟨F, FX, s, h1, h2, h3, h4, h5, h6⟩, hr, hs, hbg⟩ := h
  exact ⟨⟨F, FX, s, h1.below hbg hb, h2, h3, h4, h5, fun g off e h0 => ⟨Nat.lt_of_lt_of_le (h6 g off e h0).1 hb.size, (h6 g off e h0).2⟩⟩, rowR_below hr hb, hs.trans (hb.mono hbg), Nat.le_trans hbg hb.size⟩
theorem Gt.put (h : Gt G V B w0 a x A got recs L wr) (hla1 : 1 ≤ L.last) (hla : L.last ≤ 3) (hmr : Small recs) (hlr : recs.length ≤ 50) (hm : Small l) (hl : l.length ≤ 40) (A2 : Option Addr) (n cap : Nat) (hn : l.length = n) (hrow : RowAt wr A2 (rcC l)) (hA : ∀ g off, A2 = some (⟨g, off, none⟩ : Addr) → 0 < n → g < B) :
    Calls Tryz.prog 13 #[.pointer (some x), .slice A2 n cap] wr fun e w' => e = .returned (.int .i64 0) ∧ ∃ L', 1 ≤ L'.last ∧ L'.last ≤ 4 ∧ Gt G V B w0 a x A got (recs ++ l) L' w' := by
  by_cases h0 : n = 0
  · subst h0
    obtain rfl := List.eq_nil_of_length_eq_zero hn
    obtain ⟨F, FX, s, h1, _⟩ := h.ex
    refine (V.append0 A2 cap x a FX _ wr h1.x hla1).mono ?_
    rintro e w' ⟨rfl, hb⟩
    exact ⟨rfl, L, hla1, by omega, by rw [List.append_nil]; exact h.below hb⟩
  · obtain ⟨⟨F, FX, s, h1, h2, h3, h4, h5, h6⟩, hr, hs, hbg⟩ := h
    have hf := log1_fit h2 hmr (by omega) h4 h5
    have hu := log1_used h2
    have k1 := frames_small hmr
    have k2 := frames_small hm
    refine (h1.appends hbg hf h3 l A2 n cap hm.right hn (by omega) hrow (fun g off e h0 => by
      have := hA g off e h0
      exact ⟨fun hk => by have := h1.base g hk; omega, fun hk => by have := h1.basex g hk; omega⟩) (by omega) hla1 (by unfold mostS; omega)).mono ?_
    rintro e w' ⟨rfl, F', FX', hl', hx', ho, hF, hX, hb, hz⟩
    obtain ⟨a1, a2, a3, a4, a5⟩ := log1_append h2 (x := l) (by omega) h3 (by rw [h5]; decide) (by rw [h4]; omega)
    rw [a1]
    have hla' : 1 ≤ (appendL l L).last ∧ (appendL l L).last ≤ 4 := by
      unfold appendL
      split
      · exact ⟨by show 1 ≤ L.last + 1; omega, by show L.last + 1 ≤ 4; omega⟩
      · exact ⟨hla1, by show L.last ≤ 4; omega⟩
    refine ⟨rfl, _, hla'.1, hla'.2, ⟨F', FX', _, hx' a1, a5, a2, a4.trans h4, a3.trans h5, fun g off e h0 => ?_⟩, row_only hr ho (fun g off e h0 hk => by
      have := h6 g off e (by rw [rcC_length] at h0; omega)
      exact hk.elim this.2.1 this.2.2), hs.trans hb, hz⟩
    have := h6 g off e h0
    exact ⟨Nat.lt_of_lt_of_le this.1 ho.size, fun hk => (hF g hk).elim this.2.1 (fun h => by omega), fun hk => (hX g hk).elim this.2.2 (fun h => by omega)⟩
theorem Gt.sync (h : Gt G V B w0 a x A got recs L wr) (hla1 : 1 ≤ L.last) (hla : L.last ≤ 4) (hmr : Small recs) (hlr : recs.length ≤ 100) :
    Calls Tryz.prog 14 #[.pointer (some x)] wr fun e w' => e = .returned (.int .i64 0) ∧ Gt G V B w0 a x A got recs L w' := by
  obtain ⟨⟨F, FX, s, h1, h2, h3, h4, h5, h6⟩, hr, hs, hbg⟩ := h
  have hf := log1_fit h2 hmr hlr h4 h5
  refine (h1.syncs hbg hf h3 hla1 (by unfold mostS; omega)).mono ?_
  rintro e w' ⟨rfl, F', FX', hl', hx', ho, hF, hX, hb, hz⟩
  obtain ⟨a1, a2, a3, a4, a5⟩ := log1_sync h2 h3 (by rw [h5]; decide)
  rw [a1]
  refine ⟨rfl, ⟨F', FX', _, hx' a1, a5, a2, a4.trans h4, a3.trans h5, fun g off e h0 => ?_⟩, row_only hr ho (fun g off e h0 hk => by
    have := h6 g off e (by rw [rcC_length] at h0; omega)
    exact hk.elim this.2.1 this.2.2), hs.trans hb, hz⟩
  have := h6 g off e h0
  exact ⟨Nat.lt_of_lt_of_le this.1 ho.size, fun hk => (hF g hk).elim this.2.1 (fun h => by omega), fun hk => (hX g hk).elim this.2.2 (fun h => by omega)⟩
theorem Gt.opens (h : Gt G V B w0 a x A got recs L wr) (hmr : Small recs) (hlr : recs.length ≤ 100) :
    Calls Tryz.prog 10 #[.pointer (some a)] wr fun e w' => ∃ x A2 n cap, e = .returned (.tuple #[.pointer (some x), .slice A2 n cap, .int .i64 0]) ∧ recs.length = n ∧ RowAt w' A2 (rcC recs) ∧ RowAt w' A (rcC got) ∧ Below B w0 w' ∧ B ≤ w'.heap.size := by
  obtain ⟨⟨F, FX, s, h1, h2, h3, h4, h5, h6⟩, hr, hs, hbg⟩ := h
  have hf := log1_fit h2 hmr hlr h4 h5
  refine (h1.lone.opens V hbg hf h3 h5).mono ?_
  rintro e w' ⟨x', FX', A2, n, cap, F', s', L', m', he, hlog, hok, hm, hn, hr2, ho, _, _, _, hb, hz⟩
  obtain rfl := log1_tells h2 (G.rise h1.d) hmr.right hok.tells
  exact ⟨x', A2, n, cap, he, hm, hr2, row_only hr ho (fun g off e h0 => (h6 g off e (by rw [rcC_length] at h0; omega)).2.1), hs.trans hb, hz⟩
end
end Go.Proofs.YtdneobnnmmlebaaGreatDoor

/-
  WalStarts, walked.
-/
namespace Go.Proofs.YtdneobnnmmlebaaGreatDoor
open Go.RowKit

theorem rcC_one (l : List Rc) : ∀ u ∈ rcC l, u.oneCell' = true := fun u hu => by
  unfold rcC at hu
  obtain ⟨r, _, hr⟩ := List.mem_flatMap.1 hu
  simp [recC1] at hr
  rcases hr with rfl | rfl | rfl | rfl | rfl <;> rfl
theorem wpList_behind_w {P : Program} {w : World} {ops : Array Oper} {rest : List Oper} {o : Oper} {a : Act} {Q : Exit → Act → World → Prop} (hw : Region.wanted o (yielded ops a.tmps) = true) (s x : Operand) (t : TypeId)
    (ho : o.op = .call { callee := .builtin .append, args := #[s, x], argTypes := #[t, t] })
    (base : Nat) (e : TypeId) (i : TypeInfo) (z : Value) (k bytes : Nat) (ht : P.underlying t = some (.slice e)) (hi : P.info? e = some i) (hz : i.zero = some z)
    (hsize : i.size = k) (hby : i.bytes = bytes) (hzs : z.cells.size = k) (hk : 0 < k) (hby1 : 0 < bytes)
    (g m m' : Nat) (hmm : m ≤ m') (xs : List Value) (hs : a.eval s = .slice (some ⟨g, 0, none⟩) m m') (hown : w.ownsRow base e k (.slice (some ⟨g, 0, none⟩) m m') m xs)
    (A : Option Addr) (n c : Nat) (cs : List Value) (hx : a.eval x = .slice A n c) (hrow : RowAt w A cs) (hl : cs.length = n * k) (h1 : ∀ u ∈ cs, u.oneCell' = true) (hn : (m + n) * bytes ≤ 140737488355328)
    (w0 : World) (hb : Below base w0 w) (hbs : base ≤ w.heap.size)
    (h : ∀ g' cap' w', w'.ownsRow base e k (.slice (some ⟨g', 0, none⟩) (m + n) cap') (m + n) (xs ++ cs) → Below base w0 w' → wpList P ops Q rest (a.put o.dst (.slice (some ⟨g', 0, none⟩) (m + n) cap')) w') : wpList P ops Q (o :: rest) a w := by
  show if _ then _ else _
  rw [if_pos hw]
  refine .inl ?_
  have := step_behind (P := P) (w := w) (ops := ops) (o := { o with guard := none }) (a := a) (K := wpList P ops Q rest) (Q := Q) (E := True) rfl s x t ho base e i z k bytes ht hi hz hsize hby hzs hk hby1 g m m' hmm xs hs hown A n c cs hx hrow hl h1 hn w0 hb hbs (fun g' cap' w' h2 h3 _ => h g' cap' w' h2 h3)
  rwa [if_pos (by simp [Region.wanted])] at this
theorem fresh_lg0 : startL [] ⟨0, 0, 0⟩ = lgOf 1 0 [] [] := fresh_lg []
set_option maxRecDepth 100000 in
set_option maxHeartbeats 8000000 in
theorem starts_law (G : GoodD) (V : GoodW G) (l : List Rc) (A : Option Addr) (n cap : Nat) (m : List Rc) (A3 : Option Addr) (n3 cap3 : Nat) (fz : Int) (kp : List Int) (A2 : Option Addr) (n2 cap2 : Nat) (w : World) (hlen : l.length = n) (hrow : RowAt w A (rcC l)) (hmax : n ≤ 9223372036854775807) (hall : ∀ r ∈ l, r.data.length ≤ 9223372036854775807)
    (hlen3 : m.length = n3) (hrow3 : RowAt w A3 (rcC m)) (hmax3 : n3 ≤ 9223372036854775807) (hall3 : ∀ r ∈ m, r.data.length ≤ 9223372036854775807) (hfz : 0 ≤ fz ∧ fz ≤ 255) (hlen2 : kp.length = n2) (hrow2 : RowAt w A2 (intC kp)) (hmax2 : n2 ≤ 9223372036854775807) (hall2 : ∀ z ∈ kp, I64 z) (ht : Tab w) :
    Calls Tryz.prog 4 #[.slice A n cap, .slice A3 n3 cap3, .agg #[.int .u8 fz, .slice A2 n2 cap2]] w (Law7 w) := by
  obtain ⟨i0, hi0, hz0, hz1, hz2⟩ := info_parts infoR
  obtain ⟨wb, hwb⟩ : ∃ wb, wb = w.alloc (.cells #[.int .u8 fz, .slice A2 n2 cap2] 46) := ⟨_, rfl⟩
  have hbb : Below w.heap.size w wb := by rw [hwb]; exact (Below.refl _ _).alloc (Nat.le_refl _) _
  have hbx : w.heap.size < wb.heap.size := by rw [hwb]; simp
  have hx0 : wb.cell? ⟨w.heap.size, 0, none⟩ = some (.int .u8 fz) ∧ wb.cell? ⟨w.heap.size, 0 + 1, none⟩ = some (.slice A2 n2 cap2) := by rw [hwb]; exact ⟨by simp, by simp⟩
  obtain ⟨g, hg⟩ : ∃ g, g = w.heap.size := ⟨_, rfl⟩
  rw [← hg] at hbx hx0
  have Hg := Lib.hid hg
  have Hwb := Lib.hid hwb
  have HA := Lib.hid (awake_any G V wb (TabB.at ht hbb))
  have Ht : Hid (Tab wb) := Lib.hid (TabB.at ht hbb)
  clear ht
  have Hrow2 := Lib.hid (hrow2.below hbb (Nat.le_refl _))
  have Hl2 := Lib.hid hlen2
  have Hall2 := Lib.hid hall2
  have HR1 := Lib.hid (fun (W : World) (hb : Below wb.heap.size wb W) => right7_any l A n cap W hlen ((rowR_below hrow hbb).below hb (Nat.le_refl _)) hall hmax)
  have HR2 := Lib.hid (fun (W : World) (hb : Below wb.heap.size wb W) => right7_any m A3 n3 cap3 W hlen3 ((rowR_below hrow3 hbb).below hb (Nat.le_refl _)) hall3 hmax3)
  have Hbb := Lib.hid hbb
  have Hx := Lib.hid (And.intro hbx hx0)
  clear hrow hrow2 hrow3 hlen hlen2 hlen3 hall hall2 hall3 hmax hmax3 hwb hbb hbx hx0 hg
  go_enter Tryz.func4, Tryz.ntmps4
  go_wp2_with fail
  rw [← Hwb.out]
  refine HA.out.mono ?_
  rintro e w0 ⟨rfl, hb0⟩
  have B0 := Lib.hid hb0
  clear hb0 HA
  go_wp2_with fail
  refine (HR1.out _ B0.out).mono ?_
  rintro e w1 ⟨v1, rfl, hown1, hb1⟩
  have B1 := Lib.hid (B0.out.trans (hb1.mono B0.out.size))
  have O1 := Lib.hid hown1
  clear hb1 hown1 HR1
  go_wp2_with fail
  refine (HR2.out _ B1.out).mono ?_
  rintro e w2 ⟨v2, rfl, hown2, hb2⟩
  have B2 := Lib.hid (B1.out.trans (hb2.mono B1.out.size))
  obtain ⟨A5, c5, e5, r5⟩ := own_row (own_below O1.out hb2)
  obtain ⟨A6, c6, e6, r6⟩ := own_row hown2
  subst e5 e6
  have R5 := Lib.hid r5
  have R6 := Lib.hid r6
  obtain ⟨hsl, hll⟩ := fewL_small l
  obtain ⟨hsm, hlm⟩ := fewL_small m
  have Sl := Lib.hid hsl
  have Sm := Lib.hid hsm
  clear hb2 hown2 HR2 r5 r6 O1 hsl hsm
  generalize fewL l = p at *
  generalize fewL m = q at *
  have HN := Lib.hid (G.new 8388608 w2 (by decide) (by decide))
  go_wp2_with fail
  refine HN.out.mono ?_
  rintro e wn ⟨a, F, rfl, hd1, hF1, hb1⟩
  have L1 : Hid (Lon G w2.heap.size wn a F (newS 8388608)) := Lib.hid ⟨hd1, hF1, (TabB.of (TabB.at Ht.out B2.out)).on hb1⟩
  have Bn := Lib.hid hb1
  have HO := Lib.hid (L1.out.opens V hb1.size (fit_new (by decide) (by decide)) rfl rfl)
  clear hd1 hF1 hb1 HN
  go_wp2_with fail
  refine HO.out.mono ?_
  rintro e w3 ⟨x, FX, A4, n4, cap4, F2, s2, L, m0, rfl, hl2, hok, hm, hn, _, _, _, _, _, hb2, hz2⟩
  obtain ⟨rfl, rfl, rfl⟩ := open_new hok
  have B3 := Lib.hid (Bn.out.trans hb2)
  have HS := Lib.hid (hl2.starts hz2 (fit_new (by decide) (by decide)) (by show ([] : List Fl).length ≤ 999999; decide) rfl [] none 0 0 (fun _ h => by cases h) rfl (fun j v hj => by simp [rcC] at hj) (fun _ _ e => by cases e) (by simp [framesL]) (by unfold mostS; decide))
  rw [begun_run (by have := startT_nil; omega), fresh_lg0] at HS
  have HB5 := Lib.hid (fun (g off : Nat) (e : A5 = some (⟨g, off, none⟩ : Addr)) (h0 : 0 < p.length) => row_block R5.out (by rw [rcC_length]; omega) e)
  have HB6 := Lib.hid (fun (g off : Nat) (e : A6 = some (⟨g, off, none⟩ : Addr)) (h0 : 0 < q.length) => row_block R6.out (by rw [rcC_length]; omega) e)
  have hw1 : IntKind.i64.wrap fz = fz := by rw [IntKind.wrap_i64]; omega
  have hw2 : fz.tmod 8 = fz % 8 := Int.tmod_eq_emod_of_nonneg hfz.1
  have z0 : 0 ≤ fz % 8 ∧ fz % 8 ≤ 7 := by omega
  have z1 : 0 ≤ fz.tmod 8 ∧ fz.tmod 8 ≤ 7 := by rw [hw2]; omega
  have z2 : 0 ≤ (IntKind.i64.wrap fz).tmod 8 ∧ (IntKind.i64.wrap fz).tmod 8 ≤ 7 := by rw [hw1]; exact z1
  have Z := Lib.hid (And.intro z1 (And.intro z2 z0))
  clear hl2 hok hm hn hb2 hz2 HO hw1 hw2 z1 z2 z0
  go_wp2_with (first
    | (go_at_call 11; refine HS.out.mono ?_; rintro e w4 ⟨rfl, F3, FX3, _, hl3, _, _, _, hb3, hz3⟩; have I4 : Hid (At G V w2.heap.size w2 a x (lgOf 1 0 [] []) (SaP []) w4) := Lib.hid ⟨⟨F3, FX3, _, hl3 rfl, begun_sa⟩, B3.out.trans hb3, hz3⟩; have HP := Lib.hid (I4.out.put Sl.out hll A5 p.length c5 rfl (rowR_below R5.out I4.out.since) HB5.out); clear hl3 hb3 hz3)
    | (go_at_call 13; refine HP.out.mono ?_; rintro e w5 ⟨rfl, h5⟩; have I5 := Lib.hid h5; have HY := Lib.hid (h5.sync Sl.out hll); clear h5)
    | (go_at_call 14; refine HY.out.mono ?_; rintro e w6 ⟨rfl, h6⟩; have I6 := Lib.hid h6; clear h6; have x0 := ((B2.out.trans (I6.out.since.mono B2.out.size)).cell (p := ⟨g, 0, none⟩) Hx.out.1).trans Hx.out.2.1; rw [Hg.out] at x0; have HF := Lib.hid (fun (z : Int) (hz : 0 ≤ z ∧ z ≤ 7) => I6.out.fuse z hz)))
  go_wp2_with (go_at_call 12; refine (HF.out _ (by first | exact Z.out.2.2 | exact Z.out.1 | exact Z.out.2.1)).mono ?_; rintro e w7 ⟨rfl, h7⟩; have I7 := Lib.hid h7; have HM := Lib.hid (h7.start Sl.out hll Sm.out hlm A6 q.length c6 rfl (rowR_below R6.out h7.since) HB6.out); clear h7)
  go_wp2_with fail
  refine HM.out.mono ?_
  rintro e w8 ⟨c, rfl, h8⟩
  have I8 := Lib.hid h8
  have y1 := ((B2.out.trans (I8.out.since.mono B2.out.size)).cell (p := ⟨g, 0 + 1, none⟩) Hx.out.1).trans Hx.out.2.2
  rw [Hg.out] at y1
  have HC := Lib.hid (h8.crash kp A2 n2 cap2 Hl2.out (Hrow2.out.below (B2.out.trans (h8.since.mono B2.out.size)) (Nat.le_refl _)) (fun g' off e h0 => Nat.lt_of_lt_of_le (row_block Hrow2.out (by rw [intC_length, Hl2.out]; exact h0) e) B2.out.size) Hall2.out hmax2)
  clear h8 x0 HM
  by_cases hc : c = 0
  · subst hc
    go_wp2_with fail
    refine HC.out.mono ?_
    rintro e w9 ⟨rfl, h9⟩
    have I9 := Lib.hid h9
    have HO2 := Lib.hid (h9.opens V)
    clear h9 HC
    go_wp2_with fail
    refine HO2.out.mono ?_
    rintro e wA ⟨x2, A7, n7, c7, rec, L2, rfl, hm7, hor, hla1, hla2, hA⟩
    subst hm7
    have hrs : Small rec ∧ rec.length ≤ 40 := by
      rcases hor with rfl | ⟨_, rfl⟩
      · exact ⟨Sm.out, hlm⟩
      · exact ⟨Sl.out, hll⟩
    have Hrs := Lib.hid hrs.1
    have hrl := hrs.2
    have IA := Lib.hid hA
    have HP2 := Lib.hid (hA.put hla1 hla2 Hrs.out (by omega) Sl.out hll A5 p.length c5 rfl (rowR_below R5.out hA.since) HB5.out)
    clear hA HO2 hrs
    go_wp2_with fail
    refine HP2.out.mono ?_
    rintro e wB ⟨rfl, L3, k1, k2, hB⟩
    have HY2 := Lib.hid (hB.sync k1 k2 (Hrs.out.append Sl.out) (by rw [List.length_append]; omega))
    clear hB HP2
    go_wp2_with fail
    refine HY2.out.mono ?_
    rintro e wC ⟨rfl, hC⟩
    have HO3 := Lib.hid (hC.opens (Hrs.out.append Sl.out) (by rw [List.length_append]; omega))
    clear hC HY2
    go_wp2_with fail
    refine HO3.out.mono ?_
    rintro e wD ⟨x4, A8, n8, c8, rfl, hm8, r8, r7, hbD, hzD⟩
    have RD7 := Lib.hid r7
    have RD8 := Lib.hid r8
    have BD := Lib.hid (B2.out.trans (hbD.mono B2.out.size))
    have BDw := Lib.hid hbD
    clear r7 r8 hzD HO3
    have HSB := Lib.hid (fun (W : World) (hb : Below wD.heap.size wD W) => refsame_any rec q A7 A6 rec.length q.length c7 c6 W rfl rfl (rowR_below RD7.out hb) (rowR_below (rowR_below R6.out (BDw.out.mono (Nat.le_refl _))) hb) (by omega) (by omega))
    have HSC := Lib.hid (fun (W : World) (hb : Below wD.heap.size wD W) => refsame_any rec p A7 A5 rec.length p.length c7 c5 W rfl rfl (rowR_below RD7.out hb) (rowR_below (rowR_below R5.out (BDw.out.mono (Nat.le_refl _))) hb) (by omega) (by omega))
    have e0 : rec = q := by
      rcases hor with h | ⟨h, _⟩
      · exact h
      · exact absurd rfl h
    rw [show sameB rec q = true from sameB_iff.2 e0] at HSB
    clear e0 hor
    go_wp2_with (first
      | (at_builtin; refine wpList_behind_w (by rfl) (.tmp 94) (.tmp 95) 25 rfl wD.heap.size 28 i0 _ 5 48 Tryz.underlying25 hi0 hz0 hz1 hz2 rfl (by omega) (by omega) wD.heap.size 0 0 (Nat.le_refl _) [] rfl (own_none wD 28 5) A7 rec.length c7 (rcC rec) rfl (rowR_below RD7.out ((Below.refl _ _).alloc (Nat.le_refl _) _)) (rcC_length _) (rcC_one _) (by omega) wD ((Below.refl _ _).alloc (Nat.le_refl _) _) (by simp) ?_; intro gE capE wE hownE hbE; rw [Nat.zero_add, List.nil_append] at hownE; have OE := Lib.hid hownE; have BE := Lib.hid hbE; clear hownE hbE)
      | (at_builtin; refine wpList_behind_w (by rfl) (.tmp 96) (.tmp 97) 25 rfl wD.heap.size 28 i0 _ 5 48 Tryz.underlying25 hi0 hz0 hz1 hz2 rfl (by omega) (by omega) gE rec.length capE (own_cap OE.out) (rcC rec) rfl OE.out A5 p.length c5 (rcC p) rfl (rowR_below (rowR_below R5.out (BDw.out.mono (Nat.le_refl _))) BE.out) (rcC_length _) (rcC_one _) (by omega) wD BE.out BE.out.size ?_; intro gG capG wG hownG hbG; have BG := Lib.hid hbG; have HSA := Lib.hid (refsame_any (rec ++ p) (rec ++ p) A8 (some ⟨gG, 0, none⟩) n8 (rec.length + p.length) c8 capG wG hm8 List.length_append (rowR_below RD8.out hbG) (by have := own_row' hownG; rw [← rcC_append] at this; exact this) (by rw [← hm8, List.length_append]; omega) (by omega)); rw [show sameB (rec ++ p) (rec ++ p) = true from sameB_iff.2 rfl] at HSA; clear hownG hbG)
      | (go_at_call 18; refine HSA.out.mono ?_; rintro e wH ⟨rfl, hbH⟩; have BH := Lib.hid (BG.out.trans (hbH.mono BG.out.size)); clear hbH HSA)
      | (go_at_call 18; refine (HSB.out _ BH.out).mono ?_; rintro e wI ⟨rfl, hbI⟩; have BI := Lib.hid (BH.out.trans (hbI.mono BH.out.size)); clear hbI HSB)
      | (go_at_call 18; refine (HSC.out _ BI.out).mono ?_; rintro e wJ ⟨rfl, hbJ⟩; have BJ := Lib.hid (BI.out.trans (hbJ.mono BI.out.size)); clear hbJ))
    go_ret
    exact ⟨rfl, Hbb.out.trans ((BD.out.trans (BI.out.mono BD.out.size)).mono Hbb.out.size)⟩
  · have hcz : (c == 0) = false := by simpa using hc
    go_wp2_with fail
    refine HC.out.mono ?_
    rintro e w9 ⟨rfl, h9⟩
    have I9 := Lib.hid h9
    have HO2 := Lib.hid (h9.opens V)
    clear h9 HC
    go_wp2_with fail
    refine HO2.out.mono ?_
    rintro e wA ⟨x2, A7, n7, c7, rec, L2, rfl, hm7, hor, hla1, hla2, hA⟩
    subst hm7
    have hrs : Small rec ∧ rec.length ≤ 40 := by
      rcases hor with rfl | ⟨_, rfl⟩
      · exact ⟨Sm.out, hlm⟩
      · exact ⟨Sl.out, hll⟩
    have Hrs := Lib.hid hrs.1
    have hrl := hrs.2
    have IA := Lib.hid hA
    have HP2 := Lib.hid (hA.put hla1 hla2 Hrs.out (by omega) Sl.out hll A5 p.length c5 rfl (rowR_below R5.out hA.since) HB5.out)
    clear hA HO2 hrs
    go_wp2_with fail
    refine HP2.out.mono ?_
    rintro e wB ⟨rfl, L3, k1, k2, hB⟩
    have HY2 := Lib.hid (hB.sync k1 k2 (Hrs.out.append Sl.out) (by rw [List.length_append]; omega))
    clear hB HP2
    go_wp2_with fail
    refine HY2.out.mono ?_
    rintro e wC ⟨rfl, hC⟩
    have HO3 := Lib.hid (hC.opens (Hrs.out.append Sl.out) (by rw [List.length_append]; omega))
    clear hC HY2
    go_wp2_with fail
    refine HO3.out.mono ?_
    rintro e wD ⟨x4, A8, n8, c8, rfl, hm8, r8, r7, hbD, hzD⟩
    have RD7 := Lib.hid r7
    have RD8 := Lib.hid r8
    have BD := Lib.hid (B2.out.trans (hbD.mono B2.out.size))
    have BDw := Lib.hid hbD
    clear r7 r8 hzD HO3
    have HSB := Lib.hid (fun (W : World) (hb : Below wD.heap.size wD W) => refsame_any rec q A7 A6 rec.length q.length c7 c6 W rfl rfl (rowR_below RD7.out hb) (rowR_below (rowR_below R6.out (BDw.out.mono (Nat.le_refl _))) hb) (by omega) (by omega))
    have HSC := Lib.hid (fun (W : World) (hb : Below wD.heap.size wD W) => refsame_any rec p A7 A5 rec.length p.length c7 c5 W rfl rfl (rowR_below RD7.out hb) (rowR_below (rowR_below R5.out (BDw.out.mono (Nat.le_refl _))) hb) (by omega) (by omega))
    by_cases e0 : rec = q
    · rw [show sameB rec q = true from sameB_iff.2 e0] at HSB
      clear e0 hor
      go_wp2_with (first
        | (at_builtin; refine wpList_behind_w (by rfl) (.tmp 94) (.tmp 95) 25 rfl wD.heap.size 28 i0 _ 5 48 Tryz.underlying25 hi0 hz0 hz1 hz2 rfl (by omega) (by omega) wD.heap.size 0 0 (Nat.le_refl _) [] rfl (own_none wD 28 5) A7 rec.length c7 (rcC rec) rfl (rowR_below RD7.out ((Below.refl _ _).alloc (Nat.le_refl _) _)) (rcC_length _) (rcC_one _) (by omega) wD ((Below.refl _ _).alloc (Nat.le_refl _) _) (by simp) ?_; intro gE capE wE hownE hbE; rw [Nat.zero_add, List.nil_append] at hownE; have OE := Lib.hid hownE; have BE := Lib.hid hbE; clear hownE hbE)
        | (at_builtin; refine wpList_behind_w (by rfl) (.tmp 96) (.tmp 97) 25 rfl wD.heap.size 28 i0 _ 5 48 Tryz.underlying25 hi0 hz0 hz1 hz2 rfl (by omega) (by omega) gE rec.length capE (own_cap OE.out) (rcC rec) rfl OE.out A5 p.length c5 (rcC p) rfl (rowR_below (rowR_below R5.out (BDw.out.mono (Nat.le_refl _))) BE.out) (rcC_length _) (rcC_one _) (by omega) wD BE.out BE.out.size ?_; intro gG capG wG hownG hbG; have BG := Lib.hid hbG; have HSA := Lib.hid (refsame_any (rec ++ p) (rec ++ p) A8 (some ⟨gG, 0, none⟩) n8 (rec.length + p.length) c8 capG wG hm8 List.length_append (rowR_below RD8.out hbG) (by have := own_row' hownG; rw [← rcC_append] at this; exact this) (by rw [← hm8, List.length_append]; omega) (by omega)); rw [show sameB (rec ++ p) (rec ++ p) = true from sameB_iff.2 rfl] at HSA; clear hownG hbG)
        | (go_at_call 18; refine HSA.out.mono ?_; rintro e wH ⟨rfl, hbH⟩; have BH := Lib.hid (BG.out.trans (hbH.mono BG.out.size)); clear hbH HSA)
        | (go_at_call 18; refine (HSB.out _ BH.out).mono ?_; rintro e wI ⟨rfl, hbI⟩; have BI := Lib.hid (BH.out.trans (hbI.mono BH.out.size)); clear hbI HSB)
        | (go_at_call 18; refine (HSC.out _ BI.out).mono ?_; rintro e wJ ⟨rfl, hbJ⟩; have BJ := Lib.hid (BI.out.trans (hbJ.mono BI.out.size)); clear hbJ))
      go_ret
      exact ⟨rfl, Hbb.out.trans ((BD.out.trans (BI.out.mono BD.out.size)).mono Hbb.out.size)⟩
    · have e1 : rec = p := by
        rcases hor with h | ⟨_, h⟩
        · exact absurd h e0
        · exact h
      rw [show sameB rec q = false by cases h : sameB rec q with | false => rfl | true => exact absurd (sameB_iff.1 h) e0] at HSB
      rw [show sameB rec p = true from sameB_iff.2 e1] at HSC
      clear e0 e1 hor
      go_wp2_with (first
        | (at_builtin; refine wpList_behind_w (by rfl) (.tmp 94) (.tmp 95) 25 rfl wD.heap.size 28 i0 _ 5 48 Tryz.underlying25 hi0 hz0 hz1 hz2 rfl (by omega) (by omega) wD.heap.size 0 0 (Nat.le_refl _) [] rfl (own_none wD 28 5) A7 rec.length c7 (rcC rec) rfl (rowR_below RD7.out ((Below.refl _ _).alloc (Nat.le_refl _) _)) (rcC_length _) (rcC_one _) (by omega) wD ((Below.refl _ _).alloc (Nat.le_refl _) _) (by simp) ?_; intro gE capE wE hownE hbE; rw [Nat.zero_add, List.nil_append] at hownE; have OE := Lib.hid hownE; have BE := Lib.hid hbE; clear hownE hbE)
        | (at_builtin; refine wpList_behind_w (by rfl) (.tmp 96) (.tmp 97) 25 rfl wD.heap.size 28 i0 _ 5 48 Tryz.underlying25 hi0 hz0 hz1 hz2 rfl (by omega) (by omega) gE rec.length capE (own_cap OE.out) (rcC rec) rfl OE.out A5 p.length c5 (rcC p) rfl (rowR_below (rowR_below R5.out (BDw.out.mono (Nat.le_refl _))) BE.out) (rcC_length _) (rcC_one _) (by omega) wD BE.out BE.out.size ?_; intro gG capG wG hownG hbG; have BG := Lib.hid hbG; have HSA := Lib.hid (refsame_any (rec ++ p) (rec ++ p) A8 (some ⟨gG, 0, none⟩) n8 (rec.length + p.length) c8 capG wG hm8 List.length_append (rowR_below RD8.out hbG) (by have := own_row' hownG; rw [← rcC_append] at this; exact this) (by rw [← hm8, List.length_append]; omega) (by omega)); rw [show sameB (rec ++ p) (rec ++ p) = true from sameB_iff.2 rfl] at HSA; clear hownG hbG)
        | (go_at_call 18; refine HSA.out.mono ?_; rintro e wH ⟨rfl, hbH⟩; have BH := Lib.hid (BG.out.trans (hbH.mono BG.out.size)); clear hbH HSA)
        | (go_at_call 18; refine (HSB.out _ BH.out).mono ?_; rintro e wI ⟨rfl, hbI⟩; have BI := Lib.hid (BH.out.trans (hbI.mono BH.out.size)); clear hbI HSB)
        | (go_at_call 18; refine (HSC.out _ BI.out).mono ?_; rintro e wJ ⟨rfl, hbJ⟩; have BJ := Lib.hid (BI.out.trans (hbJ.mono BI.out.size)); clear hbJ))
      go_ret
      exact ⟨rfl, Hbb.out.trans ((BD.out.trans (BJ.out.mono BD.out.size)).mono Hbb.out.size)⟩
end Go.Proofs.YtdneobnnmmlebaaGreatDoor
