/-
  The contract of New; the program's disk answers what the document says; one that isn't there.
-/
import Derived.Test.YtbgfkjafablfiaaDK
namespace Go.Proofs.Ytbgfkjafablfiaa
open Go.RowKit Go.Maps

theorem new_zero (w : World) (gm : List UInt8 → Nat) (vm : List UInt8 → Value) : DskM (w.alloc (.cells #[.map none, .int .i64 0, .int .i64 0, .bool false, .bool false, .int .i64 0] 58)) w.heap.size none gm vm (newS 0) :=
  ⟨Holds.new w 58 _, rfl, (fun _ h => (by cases h)), (fun _ h => (by cases h)), (fun _ h => (by cases h)), List.Pairwise.nil, (fun _ h => (by cases h))⟩
set_option maxRecDepth 100000 in
set_option maxHeartbeats 2000000 in
theorem new_m (room : Int) (w : World) (h0 : 0 ≤ room) (h1 : room ≤ 8388608) : Calls Try.prog 9 #[.int .i64 room] w fun e w' => e = .returned (.tuple #[.pointer (some ⟨w.heap.size, 0, none⟩), .int .i64 0]) ∧ DskM w' w.heap.size none (fun _ => 0) (fun _ => undef) (newS room) ∧ Below w.heap.size w w' := by
  have HR := Lib.hid (room_m (new_zero w (fun _ => 0) (fun _ => undef)) room (by unfold I64; omega))
  rw [show roomS room (newS 0) = (0, newS room) from if_pos ⟨h0, h1⟩] at HR
  clear h0 h1
  go_enter Try.func9, Try.ntmps9
  go_wp2_with (go_at_call 24; refine HR.out.mono ?_; rintro e w1 ⟨rfl, hd1, ho1⟩; have D1 := Lib.hid hd1; have O1 := Lib.hid ho1; clear hd1 ho1)
  go_ret2
  exact ⟨rfl, D1.out, ((Below.refl w.heap.size w).alloc (Nat.le_refl _) (.cells #[.map none, .int .i64 0, .int .i64 0, .bool false, .bool false, .int .i64 0] 58)).trans (O1.out.below (by simp) (fun i hi => by rw [hi]; exact Nat.le_refl _))⟩
set_option maxRecDepth 100000 in
set_option maxHeartbeats 2000000 in
theorem new_bad (room : Int) (w : World) (hI : I64 room) (h0 : ¬ (0 ≤ room ∧ room ≤ 8388608)) : Calls Try.prog 9 #[.int .i64 room] w fun e w' => e = .returned (.tuple #[.pointer none, .int .i64 1]) ∧ Below w.heap.size w w' := by
  have HR := Lib.hid (room_m (new_zero w (fun _ => 0) (fun _ => undef)) room hI)
  rw [show roomS room (newS 0) = (1, newS 0) from if_neg h0] at HR
  clear h0 hI
  go_enter Try.func9, Try.ntmps9
  go_wp2_with (go_at_call 24; refine HR.out.mono ?_; rintro e w1 ⟨rfl, hd1, ho1⟩; have D1 := Lib.hid hd1; have O1 := Lib.hid ho1; clear hd1 ho1)
  go_ret2
  exact ⟨rfl, ((Below.refl w.heap.size w).alloc (Nat.le_refl _) (.cells #[.map none, .int .i64 0, .int .i64 0, .bool false, .bool false, .int .i64 0] 58)).trans (O1.out.below (by simp) (fun i hi => by rw [hi]; exact Nat.le_refl _))⟩

/-- Behind a, in blocks F, lies a disk s. -/
def DiskD (w : World) (a : Addr) (F : Nat → Prop) (s : St) : Prop :=
  ∃ r mb gm vm, a = ⟨r, 0, none⟩ ∧ DskM w r mb gm vm s ∧ (∀ k, FootM r mb gm vm s.files k → F k) ∧ ∀ k, F k → k < w.heap.size
theorem op_ret {x : Value} {r : Nat} {mb : Option Nat} {gm : List UInt8 → Nat} {vm : List UInt8 → Value} {F : Nat → Prop} {s s' : St} {w : World} {f : Nat} {args : Array Value} (hF : ∀ k, FootM r mb gm vm s.files k → F k) (hl : ∀ k, F k → k < w.heap.size)
    (h : Calls Try.prog f args w (OpRet x r mb gm vm s s' w)) : Calls Try.prog f args w (DRet DiskD x ⟨r, 0, none⟩ F s' w) :=
  h.mono fun _ w' ⟨he, mb', gm', vm', hd, ho, hk⟩ => ⟨he, fun k => F k ∨ (w.heap.size ≤ k ∧ k < w'.heap.size), ⟨r, mb', gm', vm', rfl, hd, fun k h1 => (hk k h1).elim (fun h2 => .inl (hF k h2)) (fun h2 => .inr ⟨h2, hd.lt h1⟩),
    fun k h1 => h1.elim (fun h2 => Nat.lt_of_lt_of_le (hl k h2) ho.size) (fun h2 => h2.2)⟩, ho.mono hF, fun _ h1 => h1.elim .inl (fun h2 => .inr h2.1)⟩
def good : GoodD where
  D := DiskD
  foot := fun ⟨_, _, _, _, _, _, _, hl⟩ k hk => hl k hk
  stay := fun {w w' a F s} ⟨r, mb, gm, vm, ha, hd, hF, hl⟩ hs hk => ⟨r, mb, gm, vm, ha, by
    have hb : ∀ k, FootM r mb gm vm s.files k → w'.heap[k]? = w.heap[k]? := fun k h => hk k (hF k h)
    refine ⟨(hb r (.inl rfl)).trans hd.box, ?_, fun f hf => ⟨(hb _ (.inr (.inr ⟨f, hf, .inl rfl⟩))).trans (hd.fil f hf).box, ?_⟩, hd.inj, hd.injv, hd.rise, hd.short⟩
    · have hm := hd.map
      cases mb with
      | none => exact hm
      | some b =>
        obtain ⟨es, clock, h1, q⟩ := hm
        exact ⟨es, clock, (hb b (.inr (.inl rfl))).trans h1, q⟩
    · have ho := (hd.fil f hf).own
      refine ⟨ho.1, ?_⟩
      rcases ho.2 with h0 | ⟨g, cap, cur, hv, hbg, hh, rest⟩
      · exact .inl h0
      · exact .inr ⟨g, cap, cur, hv, hbg, (hb g (.inr (.inr ⟨f, hf, .inr (by rw [hv]; rfl)⟩))).trans hh, rest⟩
    , hF, fun k h => Nat.lt_of_lt_of_le (hl k h) hs⟩
  rise := fun ⟨_, _, _, _, _, hd, _, _⟩ => hd.rise
  short := fun ⟨_, _, _, _, _, hd, _, _⟩ => hd.short
  new := fun room w h0 h1 => (new_m room w h0 h1).mono fun e w' ⟨he, hd, hb⟩ => ⟨⟨w.heap.size, 0, none⟩, fun k => k = w.heap.size, he, ⟨_, _, _, _, rfl, hd, (fun k hk => (by
      rcases hk with e | e | ⟨f, hf, _⟩
      · exact e
      · cases e
      · cases hf)), (fun k hk => (by rw [hk]; exact hd.box.lt))⟩, fun k hk => Nat.le_of_eq hk.symm, hb⟩
  bad := fun room w hI h0 => new_bad room w hI h0
  append := fun nm b a F s w ⟨r, mb, gm, vm, ha, hd, hF, hl⟩ hf hnm hbl => by subst ha; exact op_ret hF hl (append_m hd hf nm b hnm hbl)
  sync := fun nm a F s w hnm ⟨r, mb, gm, vm, ha, hd, hF, hl⟩ hf => by subst ha; exact op_ret hF hl (sync_m hd hf hnm)
  cut := fun nm n a F s w hnm ⟨r, mb, gm, vm, ha, hd, hF, hl⟩ hf hn => by subst ha; exact op_ret hF hl (cut_m hd hf hnm n hn)
  remove := fun nm a F s w hnm ⟨r, mb, gm, vm, ha, hd, hF, hl⟩ hf => by subst ha; exact op_ret hF hl (remove_m hd hf hnm)
  read := fun nm a F s w hnm ⟨r, mb, gm, vm, ha, hd, hF, hl⟩ _ => by
    subst ha
    exact op_ret hF hl ((read_m hd hnm).mono fun e w' ⟨he, hw⟩ => ⟨he, by rw [hw]; exact got_same hd⟩)
  crash := fun keep A kl kc a F s w ⟨r, mb, gm, vm, ha, hd, hF, hl⟩ hf hk hrow hA hI hkl => by subst ha; exact op_ret hF hl (crash_m hd hf keep A kl kc hk hrow (fun g off e h0 hk => hA g off e h0 (hF g hk)) hI hkl)
  fuse := fun n a F s w ⟨r, mb, gm, vm, ha, hd, hF, hl⟩ hn => by
    subst ha
    exact op_ret hF hl ((fuse_m hd n hn).mono fun e w' ⟨he, hd', ho⟩ => ⟨he, got_box hd' rfl ho⟩)
  room := fun n a F s w ⟨r, mb, gm, vm, ha, hd, hF, hl⟩ hn => by
    subst ha
    exact op_ret hF hl ((room_m hd n hn).mono fun e w' ⟨he, hd', ho⟩ => ⟨he, got_box hd' (by unfold roomS; split <;> rfl) ho⟩)
  down := fun a F s w ⟨r, mb, gm, vm, ha, hd, _, _⟩ => by
    subst ha
    exact (down_m hd).mono fun e w' ⟨he, hw⟩ => ⟨he, by rw [hw]; exact Below.refl _ _⟩
  used := fun a F s w ⟨r, mb, gm, vm, ha, hd, _, _⟩ _ => by
    subst ha
    exact (used_m hd).mono fun e w' ⟨he, hw⟩ => ⟨he, by rw [hw]; exact Below.refl _ _⟩
  names := fun a F s w ⟨r, mb, gm, vm, ha, hd, hF, hl⟩ hf => by
    subst ha
    exact (names_m hd hf).mono fun e w' ⟨⟨A, n, cap, he, hn, hr, hg⟩, hb⟩ => ⟨⟨A, n, cap, he, hn, hr, fun g off e hF => by have h1 := hg g off e; have h2 := hl g hF; omega⟩, hb⟩
end Go.Proofs.Ytbgfkjafablfiaa
