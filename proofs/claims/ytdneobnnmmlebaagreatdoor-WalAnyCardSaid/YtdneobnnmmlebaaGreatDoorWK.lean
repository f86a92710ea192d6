/- Texts of one claim, joined: WG WH WI WJ WK. -/
import Derived.Test.YtdneobnnmmlebaaGreatDoorWF
/-
  The laws' runs (pure): records put one after another till the power goes; a log begun anew while the power goes.
-/
namespace Go.Proofs.YtdneobnnmmlebaaGreatDoor

theorem frame_small {r : Rc} (h : rightR r) (hd : r.data.length ≤ 1000) : (frameL r).length ≤ 1053 := by
  unfold rightR at h
  have e1 := encL_le9 (n := r.kind.toNat) (by unfold top; omega)
  have e2 := encL_le9 (n := r.idx.toNat) (by unfold top; omega)
  have e3 := encL_le9 (n := r.term.toNat) (by unfold top; omega)
  have e4 := encL_le9 (n := r.vote.toNat) (by unfold top; omega)
  have e5 := encL_le9 (n := r.data.length) (by unfold top; omega)
  rw [frame_len]
  unfold payL
  simp only [List.length_append]
  omega
def Small (l : List Rc) : Prop := ∀ r ∈ l, rightR r ∧ r.data.length ≤ 1000
theorem Small.right {l : List Rc} (h : Small l) : ∀ r ∈ l, rightR r := fun r hr => (h r hr).1
theorem Small.append {l m : List Rc} (h : Small l) (k : Small m) : Small (l ++ m) := fun r hr => (List.mem_append.1 hr).elim (h r) (k r)
theorem frames_small : ∀ {l : List Rc}, Small l → (framesL l).length ≤ l.length * 1053
  | [], _ => Nat.zero_le _
  | r :: l, h => by
    have h1 := frame_small (h r (by simp)).1 (h r (by simp)).2
    have h2 := frames_small (l := l) (fun x hx => h x (by simp [hx]))
    rw [framesL_cons, List.length_append, List.length_cons]; omega
theorem head_small {n : Nat} (h : n ≤ top) : (headL n).length ≤ 53 := by
  have e1 := encL_le9 (n := 1) (by unfold top; omega)
  have e2 := encL_le9 (n := n) h
  have e3 := encL_le9 (n := 0) (by unfold top; omega)
  unfold headL
  rw [frame_len]
  unfold payL
  simp only [List.length_append, List.length_nil, Int.toNat_natCast, show (1 : Int).toNat = 1 from rfl, show (0 : Int).toNat = 0 from rfl]
  omega

/-! The first run. -/
/-- m has been put, so many of it surely. -/
def CrE (m : List Rc) (sure : Nat) (s : St) : Prop := ∃ ini rs dl, LogS 1 0 ini rs dl s ∧ ini.flatten ++ rs = m ∧ sure ≤ ini.flatten.length + dl ∧ ini.length ≤ m.length
def CrI (m : List Rc) (sure : Nat) (L : Lg) (s : St) : Prop := ∃ ini rs dl, LogS 1 0 ini rs dl s ∧ L = lgOf 1 0 ini rs ∧ ini.flatten ++ rs = m ∧ sure ≤ ini.flatten.length + dl ∧ ini.length ≤ m.length
theorem CrI.e {m : List Rc} {sure : Nat} {L : Lg} {s : St} (h : CrI m sure L s) : CrE m sure s := by
  obtain ⟨ini, rs, dl, h1, _, h3, h4, h5⟩ := h
  exact ⟨ini, rs, dl, h1, h3, h4, h5⟩
theorem CrI.used {m : List Rc} {sure : Nat} {L : Lg} {s : St} (h : CrI m sure L s) : usedL s.files = (headL 0).length + (framesL m).length := by
  obtain ⟨ini, rs, dl, h1, _, h3, _⟩ := h
  rw [h1.files, used_files, h3]
theorem CrE.used {m : List Rc} {sure : Nat} {s : St} (h : CrE m sure s) : usedL s.files = (headL 0).length + (framesL m).length := by
  obtain ⟨ini, rs, dl, h1, h3, _⟩ := h
  rw [h1.files, used_files, h3]
theorem crI_append {m : List Rc} {sure : Nat} {L : Lg} {s : St} (h : CrI m sure L s) (r : Rc) (hm : m.length ≤ 1000000) (hoff : s.off = false) (hroom : ((usedL s.files + (frameL r).length : Nat) : Int) ≤ s.room) :
    ((appendW [r] L s).1 = 0 ∧ (appendW [r] L s).2.off = false ∧ (appendW [r] L s).2.room = s.room ∧ (s.fuse < 0 → (appendW [r] L s).2.fuse = s.fuse) ∧ CrI (m ++ [r]) sure (appendL [r] L) (appendW [r] L s).2) ∨ ((appendW [r] L s).1 ≠ 0 ∧ 0 ≤ s.fuse ∧ CrE m sure (appendW [r] L s).2) := by
  obtain ⟨ini, rs, dl, h1, rfl, h3, h4, h5⟩ := h
  rcases append_w (x := [r]) h1 (by unfold mostS; omega) hoff (by simpa [framesL] using hroom) with ⟨a1, a2, a3, a4, ini', rs', dl', a5, a6, a7⟩ | ⟨a1, a2, dl', a5, a6⟩
  · refine .inl ⟨a1, a2, a3, a4, ini', rs', dl', a5, a6, ?_⟩
    rcases a7 with ⟨rfl, rfl, rfl⟩ | ⟨rfl, rfl, rfl⟩
    · exact ⟨by rw [← List.append_assoc, h3], h4, by rw [List.length_append]; omega⟩
    · have e : (ini ++ [rs]).flatten = m := by rw [List.flatten_append]; simpa using h3
      refine ⟨by rw [e], ?_, by rw [List.length_append, List.length_append]; simp; omega⟩
      rw [e]
      have := congrArg List.length h3
      rw [List.length_append] at this
      have := h1.dl
      omega
  · refine .inr ⟨a1, a2, ini, rs, dl', a5, h3, ?_, h5⟩
    rcases a6 with rfl | rfl
    · exact h4
    · have := h1.dl; omega
theorem crI_sync {m : List Rc} {sure : Nat} {L : Lg} {s : St} (h : CrI m sure L s) (hoff : s.off = false) :
    ((syncS (fileL L.last) s).1 = 0 ∧ (syncS (fileL L.last) s).2.off = false ∧ (syncS (fileL L.last) s).2.room = s.room ∧ (s.fuse < 0 → (syncS (fileL L.last) s).2.fuse = s.fuse) ∧ CrI m m.length L (syncS (fileL L.last) s).2) ∨ ((syncS (fileL L.last) s).1 ≠ 0 ∧ 0 ≤ s.fuse ∧ CrE m sure (syncS (fileL L.last) s).2) := by
  obtain ⟨ini, rs, dl, h1, rfl, h3, h4, h5⟩ := h
  rcases sync_w h1 hoff with ⟨a1, a2, a3, a4, a5⟩ | ⟨a1, a2, a5⟩
  · refine .inl ⟨a1, a2, a3, a4, ini, rs, rs.length, a5, rfl, h3, ?_, h5⟩
    rw [← h3, List.length_append]; exact Nat.le_refl _
  · exact .inr ⟨a1, a2, ini, rs, dl, a5, h3, h4, h5⟩
/-- What is there behind the crash. -/
theorem cr_tells {m : List Rc} {sure : Nat} {s : St} (h : CrE m sure s) (hm : ∀ r ∈ m, rightR r) (keep : List Int) {F la sz : Nat} {recs : List Rc} (ht : Tells (crashS keep s).files F la sz recs) (hr : RiseF (crashS keep s).files) : recs <+: m ∧ sure ≤ recs.length := by
  obtain ⟨ini, rs, dl, h1, h3, h4, _⟩ := h
  have hmi : ∀ x ∈ ini, ∀ r ∈ x, rightR r := fun x hx r hr => hm r (by rw [← h3]; exact List.mem_append_left _ (List.mem_flatten.2 ⟨x, hx, hr⟩))
  obtain ⟨p, sz', g1, g2, g3⟩ := crash_log keep (F := 1) (c := 0) (ini := ini) (rs := rs) (dl := dl) (Nat.le_refl _) h1.most (by unfold top; omega) hmi (fun r hr => hm r (by rw [← h3]; exact List.mem_append_right _ hr)) h1.dl (by
    cases ini with
    | nil => exact .inl ⟨rfl, Nat.zero_le _⟩
    | cons x ini => exact .inr ⟨x, ini, rfl, Nat.zero_le _⟩)
  rw [← h1.files] at g3
  obtain ⟨_, _, _, rfl⟩ := tells_unique hr ht (.inl g3)
  refine ⟨by rw [← h3]; exact (List.prefix_append_right_inj _).2 g1, by rw [List.length_append]; omega⟩

/-! A log on a disk without files. -/
def freshS (room : Int) : St := newS room
theorem start_fresh {l : List Rc} {room fuse : Int} (hf : fuse < 0) (hroom : ((startT l).length : Int) ≤ room) : startW l ⟨0, 0, 0⟩ { files := [], room := room, fuse := fuse, off := false } = (0, { files := [(fileL 1, startT l, [])], room := room, fuse := fuse, off := false }) := by
  have hb : ∀ f : List Fl, burnS { files := f, room := room, fuse := fuse, off := false } = { files := f, room := room, fuse := fuse, off := false } := fun f => by
    unfold burnS
    rw [if_neg (by simp only; omega), decide_eq_false (by simp only; omega)]; rfl
  have e1 : appendS (fileL 1) (startT l) { files := [], room := room, fuse := fuse, off := false } = (0, { files := [(fileL 1, [], startT l)], room := room, fuse := fuse, off := false }) := by
    unfold appendS
    rw [if_neg (by simp), if_neg (by rw [right_file]; simp), if_neg (by simp only [usedL]; omega), hb]
    simp [putF, atN, placeL]
  have e2 : syncS (fileL 1) { files := [(fileL 1, [], startT l)], room := room, fuse := fuse, off := false } = (0, { files := [(fileL 1, startT l, [])], room := room, fuse := fuse, off := false }) := by
    unfold syncS onS
    rw [if_neg (by simp), hb]
    simp [atN, syncF]
  unfold startW
  simp only [Nat.zero_add, e1, e2]
  rfl
theorem fresh_log (l : List Rc) : [(fileL 1, startT l, [])] = filesOf 1 l.length [] l l.length := by
  unfold filesOf fulls lastF startT bodyB
  simp [framesL_nil]
theorem fresh_lg (l : List Rc) : startL l ⟨0, 0, 0⟩ = lgOf 1 l.length [] l := by
  unfold startL lgOf startT bodyB
  simp
end Go.Proofs.YtdneobnnmmlebaaGreatDoor

/-
  A log is begun anew while the power goes (pure).
-/
namespace Go.Proofs.YtdneobnnmmlebaaGreatDoor

theorem rise_eq {a b : List Fl} (ha : RiseF a) (hb : RiseF b) (h : ∀ f, f ∈ a ↔ f ∈ b) : a = b := by
  have hnd : ∀ {a : List Fl}, RiseF a → a.Nodup := fun h => h.imp fun {x y} hxy e => by rw [e, ltL_irrefl] at hxy; cases hxy
  exact List.Perm.eq_of_pairwise (fun a b _ _ ha hb => absurd (ltL_asymm ha) (by rw [hb]; simp)) ha hb ((List.perm_ext_iff_of_nodup (hnd ha) (hnd hb)).2 h)
theorem opened_unique {l l1 l2 : List Fl} {F la sz : Nat} (h1 : Opened l F la sz l1) (h2 : Opened l F la sz l2) : l1 = l2 := rise_eq h1.rise h2.rise fun f => (h1.mem f).trans (h2.mem f).symm
section
variable {F c : Nat} {ini : List (List Rc)} {rs : List Rc} {dl : Nat}
theorem whole_log' (hF : 1 ≤ F) (hb : F + ini.length ≤ mostS) (hc : c ≤ top) (hri : ∀ rs ∈ ini, ∀ r ∈ rs, rightR r) (hr : ∀ r ∈ rs, rightR r)
    (hbeg : (ini = [] ∧ c ≤ rs.length) ∨ ∃ rs ss, ini = rs :: ss ∧ c ≤ rs.length) : LogOf (filesOf F c ini rs dl) F (F + ini.length) (bodyB F c (F + ini.length) rs).length (ini.flatten ++ rs) := by
  have hcont : contF (lastF F c (F + ini.length) rs dl) = (if F + ini.length = F then headL c else []) ++ framesL rs := by rw [lastF_cont]; rfl
  by_cases h0 : ini = []
  · rw [if_pos (by rw [h0]; rfl)] at hcont
    have := log_of (f := lastF F c (F + ini.length) rs dl) rfl hF hb hc hri (.inl ⟨h0, hcont, rfl⟩) (scan_frames hr) hbeg (fun h => absurd h0 h)
    unfold bodyB
    rw [if_pos (by rw [h0]; rfl), List.length_append]
    exact this
  · have hpos : 0 < ini.length := List.length_pos_iff.2 h0
    rw [if_neg (by omega), List.nil_append] at hcont
    have := log_of (f := lastF F c (F + ini.length) rs dl) rfl hF hb hc hri (.inr ⟨h0, hcont, rfl⟩) (scan_frames hr) hbeg (fun _ => by rw [hcont]; exact not_beg hr (List.prefix_refl _))
    unfold bodyB
    rw [if_neg (by omega), List.nil_append]
    rw [Nat.zero_add] at this
    exact this
theorem seg_name {n : Nat} (h1 : 1 ≤ n) (h2 : n ≤ mostS) : IsSeg (fileL n) := ⟨n, h1, h2, rfl⟩
theorem opened_whole (hF : 1 ≤ F) (hb : F + ini.length ≤ mostS) : Opened (filesOf F c ini rs dl) F (F + ini.length) (bodyB F c (F + ini.length) rs).length (filesOf F c ini rs dl) := by
  refine ⟨files_rise hb, fun f => ⟨fun h => ?_, fun h => ?_⟩⟩
  · rcases List.mem_append.1 h with e | e
    · obtain ⟨i, x, h1, rfl⟩ := fulls_mem e
      have := (List.getElem?_eq_some_iff.1 h1).1
      exact .inr (.inl ⟨F + i, by omega, by omega, hF, rfl, h⟩)
    · obtain rfl : f = lastF F c (F + ini.length) rs dl := by simpa using e
      refine .inr (.inr ⟨_, h, hF, rfl, (cutF_whole ?_).symm⟩)
      have := lastF_cont F c (F + ini.length) rs dl
      unfold contF at this
      unfold sizeF
      rw [← List.length_append, this]
  · rcases h with ⟨h, _⟩ | ⟨_, _, _, _, _, h⟩ | ⟨q, hq, _, hqn, rfl⟩
    · exact h
    · exact h
    · have e : q = lastF F c (F + ini.length) rs dl := rise_mem (files_rise hb) hq (List.mem_append_right _ (by simp)) hqn
      subst e
      rw [cutF_whole (by
        have := lastF_cont F c (F + ini.length) rs dl
        unfold contF at this
        unfold sizeF
        rw [← List.length_append, this])]
      exact hq
end
/-- What an opened log is: its records, its segments, what is left. -/
structure Came (l : List Fl) (recs : List Rc) : Prop where
  ex : ∃ F c ini rs dl, Tells l F (F + ini.length) (bodyB F c (F + ini.length) rs).length recs ∧ Opened l F (F + ini.length) (bodyB F c (F + ini.length) rs).length (filesOf F c ini rs dl) ∧ ini.flatten ++ rs = recs ∧ 1 ≤ F ∧ F + ini.length ≤ 3 ∧ c ≤ top ∧ dl ≤ rs.length ∧ ((ini = [] ∧ c ≤ rs.length) ∨ ∃ rs ss, ini = rs :: ss ∧ c ≤ rs.length)
theorem came_whole {F c : Nat} {ini : List (List Rc)} {rs : List Rc} {dl : Nat} (hF : 1 ≤ F) (hb : F + ini.length ≤ 3) (hc : c ≤ top) (hri : ∀ rs ∈ ini, ∀ r ∈ rs, rightR r) (hr : ∀ r ∈ rs, rightR r) (hdl : dl ≤ rs.length)
    (hbeg : (ini = [] ∧ c ≤ rs.length) ∨ ∃ rs ss, ini = rs :: ss ∧ c ≤ rs.length) : Came (filesOf F c ini rs dl) (ini.flatten ++ rs) :=
  ⟨F, c, ini, rs, dl, .inl (whole_log' hF (by unfold mostS; omega) hc hri hr hbeg), opened_whole hF (by unfold mostS; omega), rfl, hF, hb, hc, hdl, hbeg⟩
/-- A new beginning isn't whole: the elder log is there, and an empty segment. -/
theorem came_torn {l m : List Rc} {p : List UInt8} (hl : ∀ r ∈ l, rightR r) (hm : ∀ r ∈ m, rightR r) (hml : m.length ≤ top) (hp : p <+: startT m) (hne : p ≠ startT m) : Came (fulls 1 0 1 [l] ++ [(fileL 2, p, [])]) l := by
  have hok := okH hml
  have hnr : ∀ r, rightR r → ¬ frameL r <+: p := fun r hr h => by
    have e := frame_prefix hr.ok hok (h.trans hp) (List.prefix_append _ _)
    unfold rightR at hr
    rw [e] at hr
    simp only at hr
    omega
  have hnb : ¬ Beg p := fun ⟨m0, t0, h1, h2, e⟩ => by
    have h3 : headL m0.length <+: p := ⟨_, e.symm⟩
    have e1 := frame_prefix (okH h2) hok (h3.trans hp) (List.prefix_append _ _)
    have e2 := congrArg Rc.idx e1
    simp only at e2
    have e3 : m0.length = m.length := by omega
    obtain ⟨u, hu⟩ := hp
    rw [e, e3] at hu
    unfold startT at hu
    rw [List.append_assoc] at hu
    have hu := List.append_cancel_left hu
    rw [List.append_assoc] at hu
    have h4 := scan_more (scan_frames h1) (m0 := m0) h1 (by rw [List.append_nil])
    have h5 : ∀ (a b : List Rc) (s : List UInt8), (∀ r ∈ a, rightR r) → (∀ r ∈ b, rightR r) → a.length = b.length → framesL a ++ s = framesL b → a = b ∧ s = [] := by
      intro a
      induction a with
      | nil =>
        intro b s _ _ hlen hs
        have : b = [] := List.eq_nil_of_length_eq_zero hlen.symm
        subst this
        exact ⟨rfl, hs⟩
      | cons x a ih =>
        intro b s ha hb hlen hs
        cases b with
        | nil => simp at hlen
        | cons y b =>
          rw [framesL_cons, framesL_cons, List.append_assoc] at hs
          obtain ⟨rfl, hs2⟩ := frame_inj (ha x (by simp)).ok (hb y (by simp)).ok hs
          obtain ⟨rfl, h⟩ := ih b s (fun r hr => ha r (by simp [hr])) (fun r hr => hb r (by simp [hr])) (by simpa using hlen) hs2
          exact ⟨rfl, h⟩
    obtain ⟨rfl, h6⟩ := h5 m0 m (t0 ++ u) h1 hm e3 hu
    obtain ⟨rfl, rfl⟩ := List.append_eq_nil_iff.1 h6
    exact hne (by rw [e]; unfold startT; rw [List.append_nil])
  have hscan : Scan p [] p := ⟨fun _ h => (by cases h), rfl, hnr⟩
  have hcont : contF (fileL 2, p, []) = p := by simp [contF]
  have hlog := log_of (F := 1) (c := 0) (ini := [l]) (f := (fileL 2, p, [])) rfl (Nat.le_refl _) (by unfold mostS; simp) (by unfold top; omega) (by simpa using hl) (.inr ⟨by simp, hcont, rfl⟩) hscan (.inr ⟨l, [], rfl, Nat.zero_le _⟩) (fun _ => by rw [hcont]; exact hnb)
  have hsz : (bodyB 1 0 (1 + [l].length) []).length = 0 + (framesL []).length := by unfold bodyB; simp [framesL_nil]
  rw [← hsz] at hlog
  have hrise : RiseF (fulls 1 0 1 [l] ++ [(fileL 2, p, [])]) := fulls_rise (F := 1) (c := 0) (j := 1) (ss := [l]) _ (by unfold mostS; simp) rfl
  have hrise2 : RiseF (filesOf 1 0 [l] [] 0) := files_rise (by unfold mostS; simp)
  have hcut : cutF 0 (fileL 2, p, []) = (fileL 2, [], []) := by simp [cutF]
  have h0 : (bodyB 1 0 (1 + [l].length) []).length = 0 := by rw [hsz]; simp [framesL_nil]
  have hfe : filesOf 1 0 [l] [] 0 = fulls 1 0 1 [l] ++ [(fileL 2, [], [])] := by
    unfold filesOf lastF bodyB
    simp [framesL_nil]
  refine ⟨1, 0, [l], [], 0, .inl (by simpa using hlog), ⟨hrise2, fun f => ?_⟩, by simp, Nat.le_refl _, by simp, by unfold top; omega, Nat.le_refl _, .inr ⟨l, [], rfl, Nat.zero_le _⟩⟩
  rw [h0, hfe]
  constructor
  · intro h
    rcases List.mem_append.1 h with e | e
    · obtain ⟨i, x, h1, rfl⟩ := fulls_mem e
      have := (List.getElem?_eq_some_iff.1 h1).1
      exact .inr (.inl ⟨1 + i, by omega, by simp at this ⊢; omega, Nat.le_refl _, rfl, List.mem_append_left _ e⟩)
    · obtain rfl : f = (fileL 2, [], []) := by simpa using e
      exact .inr (.inr ⟨(fileL 2, p, []), by simp, Nat.le_refl _, rfl, hcut.symm⟩)
  · intro h
    rcases h with ⟨h, hns⟩ | ⟨n, h1, h2, _, h4, h⟩ | ⟨q, hq, _, hqn, rfl⟩
    · exfalso
      rcases List.mem_append.1 h with e | e
      · obtain ⟨i, x, h1, rfl⟩ := fulls_mem e
        have := (List.getElem?_eq_some_iff.1 h1).1
        exact hns (seg_name (by omega) (by unfold mostS; simp at this; omega))
      · obtain rfl : f = (fileL 2, p, []) := by simpa using e
        exact hns (seg_name (by omega) (by unfold mostS; omega))
    · rcases List.mem_append.1 h with e | e
      · exact List.mem_append_left _ e
      · obtain rfl : f = (fileL 2, p, []) := by simpa using e
        have := file_inj (n := 2) (m := n) (by unfold mostS; omega) (by unfold mostS; simp at h2; omega) h4
        simp at h2; omega
    · have e : q = (fileL 2, p, []) := rise_mem hrise hq (by simp) hqn
      subst e
      rw [hcut]; simp
/-- The new beginning is whole: the new log is there, the elder segment goes. -/
theorem came_new {l m : List Rc} (hm : ∀ r ∈ m, rightR r) (hml : m.length ≤ top) : Came (fulls 1 0 1 [l] ++ [(fileL 2, startT m, [])]) m := by
  have hrise : RiseF (fulls 1 0 1 [l] ++ [(fileL 2, startT m, [])]) := fulls_rise (F := 1) (c := 0) (j := 1) (ss := [l]) _ (by unfold mostS; simp) rfl
  have hseg : Seg (fulls 1 0 1 [l] ++ [(fileL 2, startT m, [])]) 2 (headL m.length ++ framesL m) := ⟨(fileL 2, startT m, []), by simp, rfl, by simp [contF, startT]⟩
  have hwhich : ∀ n b, n ≤ mostS → Seg (fulls 1 0 1 [l] ++ [(fileL 2, startT m, [])]) n b → n ≤ 2 := fun n b hn hs => by
    rcases seg_which (F := 1) (c := 0) (ini := [l]) rfl (by unfold mostS; simp) hn hs with ⟨i, x, h1, rfl, _⟩ | ⟨rfl, _⟩
    · have := (List.getElem?_eq_some_iff.1 h1).1
      simp at this; omega
    · simp
  have hbe : (bodyB 2 m.length (2 + ([] : List (List Rc)).length) m).length = (headL m.length).length + (framesL m).length := by unfold bodyB; simp
  have hlog : LogOf (fulls 1 0 1 [l] ++ [(fileL 2, startT m, [])]) 2 2 ((headL m.length).length + (framesL m).length) m := by
    refine ⟨by omega, by unfold mostS; omega, ⟨_, hseg, ?_⟩, fun n b h1 h2 h3 => ?_, .last (.inl ⟨rfl, m.length, hml, rfl, hseg⟩) (scan_frames hm) (fun ⟨h1, b, h2⟩ => ?_)⟩
    · have := beg_frames (t := []) (Nat.le_refl _) hml hm
      rwa [List.append_nil] at this
    · have := hwhich n b h2 h3; omega
    · have := hwhich _ b h1 h2; omega
  have hfe := filesOf 2 m.length [] m m.length
  have hone : filesOf 2 m.length [] m m.length = [(fileL 2, startT m, [])] := by
    unfold filesOf fulls lastF startT bodyB
    simp [framesL_nil]
  refine ⟨2, m.length, [], m, m.length, .inl (by rw [hbe]; exact hlog), ⟨files_rise (by unfold mostS; simp), fun f => ?_⟩, by simp, by omega, by simp, hml, Nat.le_refl _, .inl ⟨rfl, Nat.le_refl _⟩⟩
  rw [hone, hbe]
  have hcut : cutF ((headL m.length).length + (framesL m).length) (fileL 2, startT m, []) = (fileL 2, startT m, []) := cutF_whole (by unfold sizeF startT; simp)
  constructor
  · intro h
    obtain rfl : f = (fileL 2, startT m, []) := by simpa using h
    exact .inr (.inr ⟨_, by simp, by omega, rfl, hcut.symm⟩)
  · intro h
    rcases h with ⟨h, hns⟩ | ⟨n, h1, h2, _, _, _⟩ | ⟨q, hq, _, hqn, rfl⟩
    · exfalso
      rcases List.mem_append.1 h with e | e
      · obtain ⟨i, x, h1, rfl⟩ := fulls_mem e
        have := (List.getElem?_eq_some_iff.1 h1).1
        exact hns (seg_name (by omega) (by unfold mostS; simp at this; omega))
      · obtain rfl : f = (fileL 2, startT m, []) := by simpa using e
        exact hns (seg_name (by omega) (by unfold mostS; omega))
    · simp at h2; omega
    · have e : q = (fileL 2, startT m, []) := rise_mem hrise hq (by simp) hqn
      subst e
      rw [hcut]; simp
end Go.Proofs.YtdneobnnmmlebaaGreatDoor

/-
  The run of WalStarts (pure): what is there behind the crash, and what is put behind that.
-/
namespace Go.Proofs.YtdneobnnmmlebaaGreatDoor

theorem sync_any {F c : Nat} {ini : List (List Rc)} {f : Fl} {s : St} (hs : s.files = fulls F c F ini ++ [f]) (hf : f.1 = fileL (F + ini.length)) (hb : F + ini.length ≤ mostS) (hoff : s.off = false) :
    syncS (fileL (F + ini.length)) s = if (burnS s).off = true then (7, burnS s) else (0, { burnS s with files := fulls F c F ini ++ [syncF f] }) := by
  unfold syncS onS
  rw [if_neg (by rw [hoff]; simp), hs, files_at _ hf hb]
  simp only
  rw [modify_end _ _ (fulls_len F c F ini)]
theorem crash_still (keep : List Int) {F c : Nat} {ini : List (List Rc)} {f : Fl} (h : f.2.2 = []) : crashL keep 0 (fulls F c F ini ++ [f]) = fulls F c F ini ++ [f] := by
  obtain ⟨m, hm⟩ := crash_last keep (F := F) (c := c) (ini := ini) f
  rw [hm, h]
  obtain ⟨a, b, d⟩ := f
  simp only at h
  subst h
  simp
theorem files_one (l : List Rc) : filesOf 1 0 [] l l.length = fulls 1 0 1 [l] := by
  unfold filesOf lastF
  simp [fulls, framesL_nil]
theorem files_new (m : List Rc) : filesOf 2 m.length [] m m.length = [(fileL 2, startT m, [])] := by
  unfold filesOf fulls lastF startT bodyB
  simp [framesL_nil]
theorem starts_came {l m : List Rc} {s : St} (hs : s.files = filesOf 1 0 [] l l.length) (hoff : s.off = false) (hl : ∀ r ∈ l, rightR r) (hm : ∀ r ∈ m, rightR r) (hml : m.length ≤ top) (hroom : ((usedL s.files + (startT m).length : Nat) : Int) ≤ s.room) (keep : List Int) :
    ∃ recs, Came (crashS keep (startW m (lgOf 1 0 [] l) s).2).files recs ∧ (recs = m ∨ ((startW m (lgOf 1 0 [] l) s).1 ≠ 0 ∧ recs = l)) := by
  have hcl : Came (filesOf 1 0 [] l l.length) l := by
    have := came_whole (F := 1) (c := 0) (ini := []) (rs := l) (dl := l.length) (Nat.le_refl _) (by simp) (by unfold top; omega) (by simp) hl (Nat.le_refl _) (.inl ⟨rfl, Nat.zero_le _⟩)
    simpa using this
  have e1 := put_new (F := 1) (c := 0) (ini := []) (f := lastF 1 0 1 l l.length) (b := startT m) (s := s) hs rfl (by unfold mostS; simp) hoff (right_file _) hroom
  have e1 : appendS (fileL ((lgOf 1 0 [] l).last + 1)) (startT m) s = if (burnS s).off = true then (7, burnS s) else (0, { burnS s with files := s.files ++ [(fileL 2, [], startT m)] }) := e1
  unfold startW
  rw [e1]
  by_cases hb : (burnS s).off = true
  · rw [if_pos hb]
    simp only [ne_eq, Int.reduceEq, not_false_eq_true, if_true]
    refine ⟨l, ?_, .inr ⟨trivial, rfl⟩⟩
    show Came (crashL keep 0 s.files) l
    rw [hs, filesOf, crash_still keep (by unfold lastF; simp [framesL_nil])]
    exact hcl
  · rw [if_neg hb]
    simp only [ne_eq, not_true_eq_false, if_false]
    have hfe : s.files ++ [(fileL 2, [], startT m)] = fulls 1 0 1 [l] ++ [(fileL 2, [], startT m)] := by rw [hs, files_one]
    have e2 := sync_any (F := 1) (c := 0) (ini := [l]) (f := (fileL 2, [], startT m)) (s := { burnS s with files := s.files ++ [(fileL 2, [], startT m)] }) hfe rfl (by unfold mostS; simp) (off_false hb)
    have e2 : syncS (fileL ((lgOf 1 0 [] l).last + 1)) { burnS s with files := s.files ++ [(fileL 2, [], startT m)] } = if (burnS { burnS s with files := s.files ++ [(fileL 2, [], startT m)] }).off = true then (7, burnS { burnS s with files := s.files ++ [(fileL 2, [], startT m)] }) else (0, { burnS { burnS s with files := s.files ++ [(fileL 2, [], startT m)] } with files := fulls 1 0 1 [l] ++ [(fileL 2, startT m, [])] }) := e2
    rw [e2]
    by_cases hb2 : (burnS { burnS s with files := s.files ++ [(fileL 2, [], startT m)] }).off = true
    · rw [if_pos hb2]
      simp only [Int.reduceEq, not_false_eq_true, if_true]
      have hc : (crashS keep (burnS { burnS s with files := s.files ++ [(fileL 2, [], startT m)] })).files = crashL keep 0 (fulls 1 0 1 [l] ++ [(fileL 2, [], startT m)]) := by
        show crashL keep 0 (s.files ++ _) = _
        rw [hfe]
      obtain ⟨q, hq⟩ := crash_last keep (F := 1) (c := 0) (ini := [l]) (fileL 2, [], startT m)
      rw [hc, hq]
      simp only [List.nil_append]
      by_cases hw : (startT m).take q = startT m
      · rw [hw]
        exact ⟨m, came_new hm hml, .inl rfl⟩
      · exact ⟨l, came_torn hl hm hml (List.take_prefix _ _) hw, .inr ⟨trivial, rfl⟩⟩
    · rw [if_neg hb2]
      simp only [not_true_eq_false, if_false]
      have hst := crash_still keep (F := 1) (c := 0) (ini := [l]) (f := (fileL 2, startT m, [])) rfl
      generalize hs2 : burnS { burnS s with files := s.files ++ [(fileL 2, [], startT m)] } = s2 at *
      have e3 : remsS (if (lgOf 1 0 [] l).first = 0 then 0 else (lgOf 1 0 [] l).last + 1 - (lgOf 1 0 [] l).first) (lgOf 1 0 [] l).first { s2 with files := fulls 1 0 1 [l] ++ [(fileL 2, startT m, [])] } =
          if (removeS (fileL 1) { s2 with files := fulls 1 0 1 [l] ++ [(fileL 2, startT m, [])] }).1 ≠ 0 then removeS (fileL 1) { s2 with files := fulls 1 0 1 [l] ++ [(fileL 2, startT m, [])] } else (0, (removeS (fileL 1) { s2 with files := fulls 1 0 1 [l] ++ [(fileL 2, startT m, [])] }).2) := rfl
      rw [e3]
      have hoff2 : s2.off = false := off_false hb2
      have e4 : removeS (fileL 1) { s2 with files := fulls 1 0 1 [l] ++ [(fileL 2, startT m, [])] } = if (burnS { s2 with files := fulls 1 0 1 [l] ++ [(fileL 2, startT m, [])] }).off = true then (7, burnS { s2 with files := fulls 1 0 1 [l] ++ [(fileL 2, startT m, [])] }) else (0, { burnS { s2 with files := fulls 1 0 1 [l] ++ [(fileL 2, startT m, [])] } with files := [(fileL 2, startT m, [])] }) := by
        unfold removeS onS
        rw [if_neg (by simp only [hoff2]; simp)]
        simp [fulls, atN]
        rfl
      rw [e4]
      by_cases hb3 : (burnS { s2 with files := fulls 1 0 1 [l] ++ [(fileL 2, startT m, [])] }).off = true
      · rw [if_pos hb3]
        simp only [ne_eq, Int.reduceEq, not_false_eq_true, if_true]
        refine ⟨m, ?_, .inl rfl⟩
        show Came (crashL keep 0 (fulls 1 0 1 [l] ++ [(fileL 2, startT m, [])])) m
        rw [hst]
        exact came_new hm hml
      · rw [if_neg hb3]
        simp only [ne_eq, not_true_eq_false, if_false]
        refine ⟨m, ?_, .inl rfl⟩
        show Came (crashL keep 0 [(fileL 2, startT m, [])]) m
        have := crash_still keep (F := 2) (c := m.length) (ini := []) (f := (fileL 2, startT m, [])) rfl
        have hone : crashL keep 0 [(fileL 2, startT m, [])] = [(fileL 2, startT m, [])] := this
        rw [hone, ← files_new]
        have := came_whole (F := 2) (c := m.length) (ini := []) (rs := m) (dl := m.length) (by omega) (by simp) hml (by simp) hm (Nat.le_refl _) (.inl ⟨rfl, Nat.le_refl _⟩)
        simpa using this
/-- The opened log as the laws go on with it. -/
def Log1 (recs : List Rc) (L : Lg) (s : St) : Prop := ∃ F c ini rs dl, LogS F c ini rs dl s ∧ L = lgOf F c ini rs ∧ ini.flatten ++ rs = recs ∧ 1 ≤ F ∧ F + ini.length ≤ 1000 ∧ c ≤ top ∧ ((ini = [] ∧ c ≤ rs.length) ∨ ∃ rs ss, ini = rs :: ss ∧ c ≤ rs.length)
theorem came_log {s s' : St} {recs m : List Rc} {L : Lg} (hr : RiseF s.files) (hc : Came s.files recs) (ht : Tells s.files L.first L.last L.size m) (ho : Opened s.files L.first L.last L.size s'.files) : m = recs ∧ Log1 recs L s' := by
  obtain ⟨F, c, ini, rs, dl, h1, h2, h3, h4, h5, h6, h7, h8⟩ := hc.ex
  obtain ⟨e1, e2, e3, e4⟩ := tells_unique hr ht h1
  rw [e1, e2, e3] at ho
  have := opened_unique ho h2
  obtain ⟨a, b, d⟩ := L
  simp only at e1 e2 e3
  subst e1 e2 e3
  exact ⟨e4, _, c, ini, rs, dl, ⟨this, by unfold mostS; omega, h7⟩, rfl, h3, h4, by omega, h6, h8⟩
theorem log1_used {recs : List Rc} {L : Lg} {s : St} (h : Log1 recs L s) : usedL s.files ≤ 53 + (framesL recs).length := by
  obtain ⟨F, c, ini, rs, dl, h1, _, h3, _, _, h6, _⟩ := h
  rw [h1.files, used_files, h3]
  have := head_small h6
  omega
theorem log1_append {recs x : List Rc} {L : Lg} {s : St} (h : Log1 recs L s) (hb : L.last < 999) (hoff : s.off = false) (hf : s.fuse < 0) (hroom : ((usedL s.files + (framesL x).length : Nat) : Int) ≤ s.room) :
    (appendW x L s).1 = 0 ∧ (appendW x L s).2.off = false ∧ (appendW x L s).2.fuse = s.fuse ∧ (appendW x L s).2.room = s.room ∧ Log1 (recs ++ x) (appendL x L) (appendW x L s).2 := by
  obtain ⟨F, c, ini, rs, dl, h1, rfl, h3, h4, h5, h6, h7⟩ := h
  have hb : F + ini.length < 999 := hb
  rcases append_w (x := x) h1 (by unfold mostS; omega) hoff hroom with ⟨a1, a2, a3, a4, ini', rs', dl', a5, a6, a7⟩ | ⟨_, a2, _⟩
  · refine ⟨a1, a2, a4 hf, a3, F, c, ini', rs', dl', a5, a6, ?_, h4, ?_, h6, ?_⟩
    · rcases a7 with ⟨rfl, rfl, rfl⟩ | ⟨rfl, rfl, rfl⟩
      · rw [← List.append_assoc, h3]
      · rw [List.flatten_append, ← h3]; simp
    · rcases a7 with ⟨rfl, rfl, rfl⟩ | ⟨rfl, rfl, rfl⟩
      · omega
      · rw [List.length_append]; simp; omega
    · rcases a7 with ⟨rfl, rfl, rfl⟩ | ⟨rfl, rfl, rfl⟩
      · rcases h7 with ⟨h8, h9⟩ | h7
        · exact .inl ⟨h8, by rw [List.length_append]; omega⟩
        · exact .inr h7
      · rcases h7 with ⟨rfl, h9⟩ | ⟨y, ss, rfl, h9⟩
        · exact .inr ⟨rs, [], rfl, h9⟩
        · exact .inr ⟨y, ss ++ [rs], rfl, h9⟩
  · omega
theorem log1_sync {recs : List Rc} {L : Lg} {s : St} (h : Log1 recs L s) (hoff : s.off = false) (hf : s.fuse < 0) :
    (syncS (fileL L.last) s).1 = 0 ∧ (syncS (fileL L.last) s).2.off = false ∧ (syncS (fileL L.last) s).2.fuse = s.fuse ∧ (syncS (fileL L.last) s).2.room = s.room ∧ Log1 recs L (syncS (fileL L.last) s).2 := by
  obtain ⟨F, c, ini, rs, dl, h1, rfl, h3⟩ := h
  rcases sync_w h1 hoff with ⟨a1, a2, a3, a4, a5⟩ | ⟨_, a2, _⟩
  · exact ⟨a1, a2, a4 hf, a3, F, c, ini, rs, rs.length, a5, rfl, h3⟩
  · omega
theorem log1_tells {recs : List Rc} {L : Lg} {s : St} (h : Log1 recs L s) (hr : RiseF s.files) (hx : ∀ r ∈ recs, rightR r) {F la sz : Nat} {m : List Rc} (ht : Tells s.files F la sz m) : m = recs := by
  obtain ⟨F', c, ini, rs, dl, h1, _, h3, h4, h5, h6, h7⟩ := h
  have := whole_log' (dl := dl) h4 h1.most h6 (fun x hx' r hr => hx r (by rw [← h3]; exact List.mem_append_left _ (List.mem_flatten.2 ⟨x, hx', hr⟩))) (fun r hr => hx r (by rw [← h3]; exact List.mem_append_right _ hr)) h7
  rw [← h1.files] at this
  rw [(tells_unique hr ht (.inl this)).2.2.2, h3]
end Go.Proofs.YtdneobnnmmlebaaGreatDoor

/-
  Records in memory; the contracts of the reference's Right, AllRight, Same and File, of the law's begins and right.
-/
namespace Go.Proofs.YtdneobnnmmlebaaGreatDoor
open Go.RowKit

instance (r : Rc) : Decidable (rightR r) := by unfold rightR; infer_instance
def recC1 (r : Rc) : List Value := [.int .i64 r.kind, .int .i64 r.idx, .int .i64 r.term, .int .i64 r.vote, .string (bs r.data)]
def recV (r : Rc) : Value := .agg #[.int .i64 r.kind, .int .i64 r.idx, .int .i64 r.term, .int .i64 r.vote, .string (bs r.data)]
def rcC (l : List Rc) : List Value := l.flatMap recC1
/-- Its numbers are Go's. -/
def intR (r : Rc) : Prop := I64 r.kind ∧ I64 r.idx ∧ I64 r.term ∧ I64 r.vote

set_option maxRecDepth 100000 in
set_option maxHeartbeats 4000000 in
theorem refright_any (r : Rc) (w : World) (hl : r.data.length ≤ 9223372036854775807) : Calls Tryz.prog 8 #[recV r] w fun e w' => e = .returned (.bool (decide (rightR r))) ∧ Below w.heap.size w w' := by
  have hbs : (bs r.data).size = r.data.length := bs_size _
  unfold recV
  by_cases h0 : r.kind < 2
  · have Hd : Hid (decide (rightR r) = false) := Lib.hid (decide_eq_false (by unfold rightR; omega))
    obtain ⟨a, b, c, d, s⟩ := r
    simp only at *
    go_enter Tryz.func8, Tryz.ntmps8
    go_wp2
    go_ret
    exact ⟨by rw [Hd.out]; rfl, (Below.refl _ _).alloc (Nat.le_refl _) _⟩
  · by_cases h1 : 4 < r.kind
    · have Hd : Hid (decide (rightR r) = false) := Lib.hid (decide_eq_false (by unfold rightR; omega))
      obtain ⟨a, b, c, d, s⟩ := r
      simp only at *
      go_enter Tryz.func8, Tryz.ntmps8
      go_wp2
      go_ret
      exact ⟨by rw [Hd.out]; rfl, (Below.refl _ _).alloc (Nat.le_refl _) _⟩
    · by_cases h2 : r.idx < 0
      · have Hd : Hid (decide (rightR r) = false) := Lib.hid (decide_eq_false (by unfold rightR; omega))
        obtain ⟨a, b, c, d, s⟩ := r
        simp only at *
        go_enter Tryz.func8, Tryz.ntmps8
        go_wp2
        go_ret
        exact ⟨by rw [Hd.out]; rfl, (Below.refl _ _).alloc (Nat.le_refl _) _⟩
      · by_cases h3 : r.term < 0
        · have Hd : Hid (decide (rightR r) = false) := Lib.hid (decide_eq_false (by unfold rightR; omega))
          obtain ⟨a, b, c, d, s⟩ := r
          simp only at *
          go_enter Tryz.func8, Tryz.ntmps8
          go_wp2
          go_ret
          exact ⟨by rw [Hd.out]; rfl, (Below.refl _ _).alloc (Nat.le_refl _) _⟩
        · by_cases h4 : r.vote < 0
          · have Hd : Hid (decide (rightR r) = false) := Lib.hid (decide_eq_false (by unfold rightR; omega))
            obtain ⟨a, b, c, d, s⟩ := r
            simp only at *
            go_enter Tryz.func8, Tryz.ntmps8
            go_wp2
            go_ret
            exact ⟨by rw [Hd.out]; rfl, (Below.refl _ _).alloc (Nat.le_refl _) _⟩
          · by_cases h5 : 131072 < (r.data.length : Int)
            · have Hd : Hid (decide (rightR r) = false) := Lib.hid (decide_eq_false (by unfold rightR; omega))
              obtain ⟨a, b, c, d, s⟩ := r
              simp only at *
              go_enter Tryz.func8, Tryz.ntmps8
              go_wp2
              go_ret
              exact ⟨by rw [Hd.out]; rfl, (Below.refl _ _).alloc (Nat.le_refl _) _⟩
            · by_cases h6 : r.idx ≤ 1099511627776
              · by_cases h7 : r.term ≤ 1099511627776
                · by_cases h8 : r.vote ≤ 1099511627776
                  · have Hd : Hid (decide (rightR r) = true) := Lib.hid (decide_eq_true (by unfold rightR; omega))
                    obtain ⟨a, b, c, d, s⟩ := r
                    simp only at *
                    go_enter Tryz.func8, Tryz.ntmps8
                    go_wp2
                    go_ret
                    exact ⟨by rw [Hd.out]; rfl, (Below.refl _ _).alloc (Nat.le_refl _) _⟩
                  · have Hd : Hid (decide (rightR r) = false) := Lib.hid (decide_eq_false (by unfold rightR; omega))
                    obtain ⟨a, b, c, d, s⟩ := r
                    simp only at *
                    go_enter Tryz.func8, Tryz.ntmps8
                    go_wp2
                    go_ret
                    exact ⟨by rw [Hd.out]; rfl, (Below.refl _ _).alloc (Nat.le_refl _) _⟩
                · have Hd : Hid (decide (rightR r) = false) := Lib.hid (decide_eq_false (by unfold rightR; omega))
                  obtain ⟨a, b, c, d, s⟩ := r
                  simp only at *
                  go_enter Tryz.func8, Tryz.ntmps8
                  go_wp2
                  go_ret
                  exact ⟨by rw [Hd.out]; rfl, (Below.refl _ _).alloc (Nat.le_refl _) _⟩
              · have Hd : Hid (decide (rightR r) = false) := Lib.hid (decide_eq_false (by unfold rightR; omega))
                obtain ⟨a, b, c, d, s⟩ := r
                simp only at *
                go_enter Tryz.func8, Tryz.ntmps8
                go_wp2
                go_ret
                exact ⟨by rw [Hd.out]; rfl, (Below.refl _ _).alloc (Nat.le_refl _) _⟩
end Go.Proofs.YtdneobnnmmlebaaGreatDoor

/-
  The contracts of the reference's AllRight and Same, of the law's right and begins.
-/
namespace Go.Proofs.YtdneobnnmmlebaaGreatDoor
open Go.RowKit

theorem rcC_length (l : List Rc) : (rcC l).length = l.length * 5 := by
  induction l with
  | nil => rfl
  | cons s l ih => simp only [rcC, List.flatMap_cons, List.length_append, List.length_cons, recC1, List.length_nil] at *; omega
theorem rcC_cons (r : Rc) (l : List Rc) : rcC (r :: l) = recC1 r ++ rcC l := rfl
theorem rcC_append (l m : List Rc) : rcC (l ++ m) = rcC l ++ rcC m := by unfold rcC; rw [List.flatMap_append]
theorem rcC_at : ∀ (l : List Rc) (i : Nat) (r : Rc) (k : Nat), l[i]? = some r → k < 5 → (rcC l)[i * 5 + k]? = (recC1 r)[k]?
  | [], i, r, k, h, _ => by simp at h
  | q :: l, 0, r, k, h, hk => by
    obtain rfl : q = r := by simpa using h
    rw [rcC_cons, Nat.zero_mul, Nat.zero_add, List.getElem?_append_left (by simp [recC1]; omega)]
  | q :: l, i + 1, r, k, h, hk => by
    have := rcC_at l i r k (by simpa using h) hk
    rw [rcC_cons, show (i + 1) * 5 + k = (recC1 q).length + (i * 5 + k) by simp [recC1]; omega, List.getElem?_append_right (by omega), Nat.add_sub_cancel_left]
    exact this
theorem row_rec {w : World} {A : Option Addr} {l : List Rc} (h : RowAt w A (rcC l)) {i : Nat} {r : Rc} (hr : l[i]? = some r) : ∃ b off, A = some (⟨b, off, none⟩ : Addr) ∧ b < w.heap.size ∧
    w.cell? ⟨b, off + i * 5, none⟩ = some (.int .i64 r.kind) ∧ w.cell? ⟨b, off + i * 5 + 1, none⟩ = some (.int .i64 r.idx) ∧ w.cell? ⟨b, off + i * 5 + 2, none⟩ = some (.int .i64 r.term) ∧ w.cell? ⟨b, off + i * 5 + 3, none⟩ = some (.int .i64 r.vote) ∧ w.cell? ⟨b, off + i * 5 + 4, none⟩ = some (.string (bs r.data)) := by
  have g := fun k v (hk : k < 5) (hv : (recC1 r)[k]? = some v) => h (i * 5 + k) v ((rcC_at l i r k hr hk).trans hv)
  obtain ⟨b, off, hA, hl, c0⟩ := g 0 _ (by omega) rfl
  refine ⟨b, off, hA, hl, by simpa using c0, ?_, ?_, ?_, ?_⟩
  · obtain ⟨b', off', hA', _, c⟩ := g 1 _ (by omega) rfl
    rw [hA] at hA'; injection hA' with e; injection e with e1 e2; subst e1 e2
    rw [Nat.add_assoc]; exact c
  · obtain ⟨b', off', hA', _, c⟩ := g 2 _ (by omega) rfl
    rw [hA] at hA'; injection hA' with e; injection e with e1 e2; subst e1 e2
    rw [Nat.add_assoc]; exact c
  · obtain ⟨b', off', hA', _, c⟩ := g 3 _ (by omega) rfl
    rw [hA] at hA'; injection hA' with e; injection e with e1 e2; subst e1 e2
    rw [Nat.add_assoc]; exact c
  · obtain ⟨b', off', hA', _, c⟩ := g 4 _ (by omega) rfl
    rw [hA] at hA'; injection hA' with e; injection e with e1 e2; subst e1 e2
    rw [Nat.add_assoc]; exact c

def allB (l : List Rc) : Bool := l.all fun r => decide (rightR r)
theorem allB_take {l : List Rc} {i : Nat} {r : Rc} (h : l[i]? = some r) : allB (l.take (i + 1)) = (allB (l.take i) && decide (rightR r)) := by
  unfold allB
  rw [List.take_add_one, h]; simp
theorem allB_false {l : List Rc} {i : Nat} {r : Rc} (h : l[i]? = some r) (hr : ¬ rightR r) : allB l = false := by
  unfold allB
  rw [List.all_eq_false]
  exact ⟨r, List.mem_of_getElem? h, by simp [hr]⟩
set_option maxRecDepth 100000 in
set_option maxHeartbeats 4000000 in
theorem allright_any (l : List Rc) (A : Option Addr) (n cap : Nat) (w : World) (hlen : l.length = n) (hrow : RowAt w A (rcC l)) (hd : ∀ r ∈ l, r.data.length ≤ 9223372036854775807) (hn : n ≤ 9223372036854775807) :
    Calls Tryz.prog 22 #[.slice A n cap] w fun e w' => e = .returned (.bool (allB l)) ∧ Below w.heap.size w w' := by
  have Hrow := Lib.hid hrow
  have Hlen := Lib.hid hlen
  have Hd := Lib.hid hd
  clear hrow hlen hd
  go_enter Tryz.func22, Tryz.ntmps22
  go_wp2
  go_loopw [3] (fun iv wr => ∃ i : Nat, i ≤ n ∧ iv = .int .i64 i ∧ allB (l.take i) = true ∧ Below w.heap.size w wr) (fun iv _ => n - (intOf iv).toNat)
  case atStart => exact ⟨0, Nat.zero_le _, rfl, rfl, Below.refl _ _⟩
  case round =>
    obtain ⟨i, hi, rfl, hal, hb⟩ := hrel
    have Hal := Lib.hid hal
    have Hb := Lib.hid hb
    clear hal
    by_cases hlt : i < n
    · have hltz : (i : Int) < (n : Int) := by omega
      obtain ⟨r, hr⟩ : ∃ r, l[i]? = some r := ⟨_, List.getElem?_eq_getElem (by rw [Hlen.out]; exact hlt)⟩
      obtain ⟨b, off, rfl, hbl, c0, c1, c2, c3, c4⟩ := row_rec Hrow.out hr
      have d0 := (hb.cell (p := ⟨b, off + i * 5, none⟩) hbl).trans c0
      have d1 := (hb.cell (p := ⟨b, off + i * 5 + 1, none⟩) hbl).trans c1
      have d2 := (hb.cell (p := ⟨b, off + i * 5 + 2, none⟩) hbl).trans c2
      have d3 := (hb.cell (p := ⟨b, off + i * 5 + 3, none⟩) hbl).trans c3
      have d4 := (hb.cell (p := ⟨b, off + i * 5 + 4, none⟩) hbl).trans c4
      have HR := Lib.hid (refright_any r wr (Hd.out r (List.mem_of_getElem? hr)))
      have Hr := Lib.hid hr
      clear c0 c1 c2 c3 c4 hr hb hbl
      by_cases hok : rightR r
      · rw [decide_eq_true hok] at HR
        have Hn : Hid (allB (l.take (i + 1)) = true) := Lib.hid (by rw [allB_take Hr.out, Hal.out, decide_eq_true hok]; rfl)
        clear hok
        go_wp2_with (go_at_call 8; refine HR.out.mono ?_; rintro e w1 ⟨rfl, hb1⟩; have Hb1 := Lib.hid hb1; clear hb1)
        go_roundw
        case rel => exact ⟨i + 1, by omega, by go_num, Hn.out, Hb.out.trans (Hb1.out.mono Hb.out.size)⟩
        case measure => simp [intOf]; omega
      · have Hn : Hid (allB l = false) := Lib.hid (allB_false Hr.out hok)
        rw [decide_eq_false hok] at HR
        clear hok
        go_wp2_with (go_at_call 8; refine HR.out.mono ?_; rintro e w1 ⟨rfl, hb1⟩; have Hb1 := Lib.hid hb1; clear hb1)
        go_ret
        exact ⟨by rw [Hn.out]; rfl, Hb.out.trans (Hb1.out.mono Hb.out.size)⟩
    · have hltz : ¬ (i : Int) < (n : Int) := by omega
      have Hn : Hid (allB l = true) := Lib.hid (by have := Hal.out; rwa [List.take_of_length_le (by rw [Hlen.out]; omega)] at this)
      clear hb
      go_wp2
      go_ret
      exact ⟨by rw [Hn.out]; rfl, Hb.out⟩
end Go.Proofs.YtdneobnnmmlebaaGreatDoor
