/-
  DiskRooms, from what it asks of the program's own disk.
-/
import Derived.Test.YtbgfkjafablfiaaTR
namespace Go.Proofs.Ytbgfkjafablfiaa
open Go.RowKit

theorem usedL_at (b : List UInt8) : ∀ (l : List Fl) (i : Nat), i < l.length → usedL (l.modify i fun f => (f.1, f.2.1, f.2.2 ++ b)) = usedL l + b.length
  | [], i, h => by simp at h
  | f :: l, 0, _ => by
    simp only [List.modify_zero_cons, usedL, sizeF, List.length_append]; omega
  | f :: l, i + 1, h => by
    have := usedL_at b l i (by simpa using h)
    simp only [List.modify_succ_cons, usedL]; omega
theorem put_used_eq (nm b : List UInt8) (l : List Fl) : usedL (putF nm b l) = usedL l + b.length := by
  unfold putF
  cases h : atN nm l with
  | some i =>
    obtain ⟨f, hf, _⟩ := atN_some h
    exact usedL_at b l i (List.getElem?_eq_some_iff.1 hf).1
  | none =>
    have h1 := usedL_split l (placeL nm l)
    rw [usedL_append, usedL_append]
    simp only [usedL, sizeF, List.length_nil]
    omega
/-- A disk with no fuse. -/
structure Calm (room : Int) (used : Nat) (s : St) : Prop where
  off : s.off = false
  fuse : s.fuse = -1
  room : s.room = room
  used : usedL s.files = used
theorem calm_append {room : Int} {used : Nat} {s : St} (h : Calm room used s) (nm b : List UInt8) (hr : rightL nm = true) :
    appendS nm b s = if room < ((used + b.length : Nat) : Int) then (6, s) else (0, { s with files := putF nm b s.files }) := by
  obtain ⟨h1, h2, h3, h4⟩ := h
  cases s with
  | mk files rm fu of =>
    simp only at h1 h2 h3 h4
    subst h1 h2 h3 h4
    unfold appendS
    simp only [hr, burnS]
    split
    · simp_all
    · split
      · simp_all
      · split
        · rfl
        · rfl
theorem Calm.more {room : Int} {used : Nat} {s : St} (h : Calm room used s) (nm b : List UInt8) : Calm room (used + b.length) { s with files := putF nm b s.files } :=
  ⟨h.off, h.fuse, h.room, (put_used_eq nm b s.files).trans (by rw [h.used])⟩
/-- The law's names. -/
def nmR (i : Nat) : List UInt8 := [UInt8.ofNat (97 + i % 5)]
theorem nmR_right (i : Nat) : rightL (nmR i) = true := by
  unfold nmR
  have : i % 5 < 5 := Nat.mod_lt _ (by omega)
  generalize i % 5 = k at this
  rcases k with _ | _ | _ | _ | _ | k
  · decide +kernel
  · decide +kernel
  · decide +kernel
  · decide +kernel
  · decide +kernel
  · omega
theorem conv_one (W : World) (i : Nat) : (convert 49 9 (.slice (some ⟨W.heap.size, 0, none⟩) 1 1)).run Try.prog (W.alloc (.cells #[.int .u8 (97 + (i : Int) % 5)] 5)) = .ok (.string (bs (nmR i))) (W.alloc (.cells #[.int .u8 (97 + (i : Int) % 5)] 5)) := by
  rw [bs_eq]
  refine run_convert_bytes_back _ 49 9 5 ⟨W.heap.size, 0, none⟩ 1 (nmR i) Try.underlying49 Try.underlying5 Try.underlying9 fun j hj => ?_
  obtain rfl : j = 0 := by simp [nmR] at hj; exact hj
  rw [add_off]
  simp [nmR]
  omega
/-- The law's loop. -/
structure RoomI (G : GoodD) (w : World) (a : Addr) (room : Nat) (used i : Nat) (F : Nat → Prop) (s : St) (wr : World) : Prop where
  lone : Lone G w.heap.size wr a F s
  since : Below w.heap.size w wr
  calm : Calm room used s
  most : Most s used i
theorem RoomI.grown {G : GoodD} {w : World} {a : Addr} {room used i : Nat} {F : Nat → Prop} {s : St} {wr : World} (h : RoomI G w a room used i F s wr) : w.heap.size ≤ wr.heap.size := h.since.size

set_option maxRecDepth 100000 in
set_option maxHeartbeats 4000000 in
theorem rooms_law (G : GoodD) (l : List (List UInt8)) (A : Option Addr) (n cap : Nat) (u : Nat) (w : World)
    (hn : l.length = n) (hr : RowAt w A (strC l)) (_hn1 : n ≤ 9223372036854775807) (hu : u ≤ 65535) (hls : ∀ s ∈ l, s.length ≤ 9223372036854775807) :
    Calls Try.prog 6 #[.int .u16 u, .slice A n cap] w (Laws w) := by
  have Hn := Lib.hid hn
  have Hr := Lib.hid hr
  have Hls := Lib.hid hls
  clear hn hr hls
  have HA := Lib.hid (awake_any G w)
  have HN := Lib.hid (fun W => G.new u W (by omega) (by omega))
  have Hm0 := Lib.hid (most_new u (by omega) (by omega))
  go_enter Try.func6, Try.ntmps6
  go_wp2_with fail
  refine HA.out.mono ?_
  rintro e w1 ⟨rfl, hb1⟩
  have B1 := Lib.hid hb1
  clear hb1 HA
  go_wp2_with fail
  refine (HN.out w1).mono ?_
  rintro e w2 ⟨a, F, rfl, hd, hF, hb2⟩
  have HI : Hid (RoomI G w a u 0 0 F (newS u) w2) := Lib.hid
    ⟨⟨hd, fun k hk => Nat.le_trans B1.out.size (hF k hk)⟩, B1.out.trans (hb2.mono B1.out.size), ⟨rfl, rfl, rfl, rfl⟩, Hm0.out⟩
  clear hd hF hb2 HN B1 Hm0
  go_wp2_with fail
  go_loopw [7, 8] (fun dv iv wr => ∃ i used : Nat, ∃ F s, i ≤ n ∧ i ≤ 100 ∧ iv = .int .i64 i ∧ dv = .int .i64 used ∧ used ≤ u ∧ RoomI G w a u used i F s wr) (fun _ iv _ => n - (intOf iv).toNat)
  case atStart => exact ⟨0, 0, F, _, Nat.zero_le _, Nat.zero_le _, rfl, rfl, Nat.zero_le _, HI.out⟩
  case round =>
    clear HI
    obtain ⟨i, used, F', s, hi, hi2, rfl, rfl, hus, hI⟩ := hrel
    have HI := Lib.hid hI
    clear hI
    by_cases hlt : i < n ∧ i < 100
    · obtain ⟨hlt, hl2⟩ := hlt
      have hltz : (i : Int) < (n : Int) := by omega
      have hltz2 : (i : Int) < (100 : Int) := by omega
      obtain ⟨b, hb⟩ : ∃ b, l[i]? = some b := ⟨_, List.getElem?_eq_getElem (by rw [Hn.out]; exact hlt)⟩
      have hbl := Hls.out b (List.mem_of_getElem? hb)
      obtain ⟨g, off1, rfl, hg, hc⟩ := row_str (Hr.out.below HI.out.since (Nat.le_refl _)) i b hb
      have eb : (bs b).size = b.length := bs_size _
      have Hcw : Hid (∀ W, Below w.heap.size w W → W.cell? ⟨g, off1 + i, none⟩ = some (.string (bs b))) := Lib.hid (fun W hW => by
        obtain ⟨b', off', e1, h1, h2⟩ := row_str Hr.out i b hb
        injection e1 with e1
        injection e1 with e1 e2
        subst e1
        subst e2
        exact (hW.cell h1).trans h2)
      clear hb
      by_cases hbig : b.length ≤ 100000
      · have hbz : ¬ (100000 : Int) < (b.length : Int) := by omega
        obtain ⟨wq, hwq⟩ : ∃ wq, wq = wr.alloc (.cells #[.int .u8 (97 + (i : Int) % 5)] 5) := ⟨_, rfl⟩
        have kc := conv_one wr i
        have Hwq := Lib.hid hwq
        have Hal : Hid (Below wr.heap.size wr wq) := Lib.hid (by rw [hwq]; exact (Below.refl _ _).alloc (Nat.le_refl _) _)
        have Lq := Lib.hid (HI.out.lone.below Hal.out)
        have Bq := Lib.hid (HI.out.since.trans (Hal.out.mono HI.out.grown))
        have Zq : Hid (w.heap.size ≤ wq.heap.size) := Lib.hid Bq.out.size
        have HP := Lib.hid (Lq.out.ret Zq.out (G.append (nmR i) b a F' s wq Lq.out.d (HI.out.most.fit (by omega) (by omega)) (by simp [nmR]) (by omega)))
        rw [calm_append HI.out.calm (nmR i) b (nmR_right i)] at HP
        rw [hwq] at *
        clear hwq
        by_cases hroom : used + b.length ≤ u
        · have hr1 : (b.length : Int) ≤ (u : Int) - (used : Int) := by omega
          rw [if_neg (by omega)] at HP
          have Hc2 := Lib.hid (HI.out.calm.more (nmR i) b)
          have Hm2 : Hid (Most { s with files := putF (nmR i) b s.files } (used + b.length) (i + 1)) := Lib.hid
            ⟨by have := HI.out.most.used; have := (put_used (nmR i) b s.files).1; show usedL (putF _ _ _) ≤ _; omega, by have := HI.out.most.len; have := (put_used (nmR i) b s.files).2; show (putF _ _ _).length ≤ _; omega, HI.out.most.room0, HI.out.most.room1, HI.out.most.fuse0, HI.out.most.fuse1⟩
          go_wp2_with fail
          refine HP.out.mono ?_
          rintro e w5 ⟨rfl, F5, l5, b5, z5⟩
          have L5 := Lib.hid l5
          have B5 := Lib.hid (Bq.out.trans b5)
          have Z5 := Lib.hid z5
          have HU : Hid (Calls Try.prog 20 #[.pointer (some a)] w5 fun e w' => e = .returned (.int .i64 (used + b.length : Nat)) ∧ Below w5.heap.size w5 w') := Lib.hid (by
            have h1 := G.used a F5 _ w5 L5.out.d (Hm2.out.fit (by omega) (by omega))
            rw [show usedS ({ s with files := putF (nmR i) b s.files } : St) = used + b.length by unfold usedS; rw [if_neg (by rw [Hc2.out.off]; simp), Hc2.out.used]] at h1
            exact h1)
          clear l5 b5 z5 HP hc
          have hc := Hcw.out _ B5.out
          go_wp2_with fail
          refine HU.out.mono ?_
          rintro e w6 ⟨rfl, b6⟩
          have L6 := Lib.hid (L5.out.below b6)
          have B6 := Lib.hid (B5.out.trans (b6.mono Z5.out))
          clear b6 HU hc
          go_wp2
          go_roundw
          case rel => exact ⟨i + 1, used + b.length, F5, { s with files := putF (nmR i) b s.files }, by omega, by omega, by go_num, by go_num, by omega, L6.out, B6.out, Hc2.out, Hm2.out⟩
          case measure => simp [intOf]; omega
        · have hr1 : ¬ (b.length : Int) ≤ (u : Int) - (used : Int) := by omega
          rw [if_pos (by omega)] at HP
          have Hc2 := Lib.hid HI.out.calm
          have Hm2 : Hid (Most s used (i + 1)) := Lib.hid
            ⟨HI.out.most.used, by have := HI.out.most.len; omega, HI.out.most.room0, HI.out.most.room1, HI.out.most.fuse0, HI.out.most.fuse1⟩
          go_wp2_with fail
          refine HP.out.mono ?_
          rintro e w5 ⟨rfl, F5, l5, b5, z5⟩
          have L5 := Lib.hid l5
          have B5 := Lib.hid (Bq.out.trans b5)
          have Z5 := Lib.hid z5
          have HU : Hid (Calls Try.prog 20 #[.pointer (some a)] w5 fun e w' => e = .returned (.int .i64 (used : Nat)) ∧ Below w5.heap.size w5 w') := Lib.hid (by
            have h1 := G.used a F5 _ w5 L5.out.d (Hm2.out.fit (by omega) (by omega))
            rw [show usedS (s : St) = used by unfold usedS; rw [if_neg (by rw [Hc2.out.off]; simp), Hc2.out.used]] at h1
            exact h1)
          clear l5 b5 z5 HP hc
          have hc := Hcw.out _ B5.out
          go_wp2_with fail
          refine HU.out.mono ?_
          rintro e w6 ⟨rfl, b6⟩
          have L6 := Lib.hid (L5.out.below b6)
          have B6 := Lib.hid (B5.out.trans (b6.mono Z5.out))
          clear b6 HU hc
          go_wp2
          go_roundw
          case rel => exact ⟨i + 1, used, F5, s, by omega, by omega, by go_num, by go_num, by omega, L6.out, B6.out, Hc2.out, Hm2.out⟩
          case measure => simp [intOf]; omega
      · have hbz : (100000 : Int) < (b.length : Int) := by omega
        go_wp2
        go_ret
        exact ⟨rfl, HI.out.since⟩
    · have Hcut : Hid (i = n ∨ i = 100) := Lib.hid (by omega)
      by_cases h5 : (i : Int) < (n : Int)
      · have h6 : ¬ (i : Int) < 100 := by have := Hcut.out; omega
        clear hlt
        go_wp2
        go_ret
        exact ⟨rfl, HI.out.since⟩
      · clear hlt
        go_wp2
        go_ret
        exact ⟨rfl, HI.out.since⟩
end Go.Proofs.Ytbgfkjafablfiaa
