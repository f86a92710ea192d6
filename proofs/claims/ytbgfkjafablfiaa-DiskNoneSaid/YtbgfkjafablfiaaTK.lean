/-
  The contract of the laws' same: both disks are alike.
-/
import Derived.Test.YtbgfkjafablfiaaTJ
namespace Go.Proofs.Ytbgfkjafablfiaa
open Go.RowKit

theorem atN_rise : ∀ {l : List Fl} {i : Nat} {f : Fl}, RiseF l → l[i]? = some f → atN f.1 l = some i
  | [], i, f, _, h => by simp at h
  | g :: l, 0, f, _, h => by
    obtain rfl : g = f := by simpa using h
    exact atN_hit rfl
  | g :: l, i + 1, f, hr, h => by
    obtain ⟨h1, h2⟩ := List.pairwise_cons.1 hr
    have hf : l[i]? = some f := by simpa using h
    have hlt := h1 f (List.mem_of_getElem? hf)
    rw [atN_skip (fun e => by rw [e, ltL_irrefl] at hlt; cases hlt), atN_rise h2 hf]
    rfl
theorem readS_at {s : St} {i : Nat} {f : Fl} (ho : s.off = false) (hr : RiseF s.files) (hf : s.files[i]? = some f) : readS f.1 s = (f.2.1 ++ f.2.2, 0) := by
  unfold readS
  rw [if_neg (by rw [ho]; simp), atN_rise hr hf]
  simp only
  rw [hf]
theorem usedS_on {s : St} (h : s.off = false) : usedS s = usedL s.files := by unfold usedS; rw [if_neg (by rw [h]; simp)]
theorem usedS_off {s : St} (h : s.off = true) : usedS s = 0 := by unfold usedS; rw [if_pos h]
theorem namesL_on {s : St} (h : s.off = false) : namesL s = s.files.map (·.1) := by unfold namesL; rw [if_neg (by rw [h]; simp)]
theorem namesL_off {s : St} (h : s.off = true) : namesL s = [] := by unfold namesL; rw [if_pos h]

set_option maxRecDepth 100000 in
set_option maxHeartbeats 8000000 in
theorem same_any (G : GoodD) (B : Nat) (w : World) (a : Addr) (F : Nat → Prop) (r : Nat) (v : Value) (s : St) (h : Both G B w a F r v s) (hB : B ≤ w.heap.size) (hf : Fit s) :
    Calls Try.prog 13 #[.pointer (some a), .pointer (some ⟨r, 0, none⟩)] w (BothRet G B a r s (.bool true) w) := by
  have HN := Lib.hid (G.names a F s w h.d hf)
  have HT := Lib.hid h
  have HB := Lib.hid hB
  have HF := Lib.hid hf
  clear h hB hf
  go_enter Try.func13, Try.ntmps13
  go_wp2_with fail
  refine HN.out.mono ?_
  rintro e w1 ⟨⟨A, n, cap, rfl, hn, hrow, hnew⟩, hb1⟩
  have HT1 := Lib.hid (HT.out.below hb1)
  have Hb1 := Lib.hid (hb1.mono HB.out)
  have Hrow := Lib.hid hrow
  have Hn := Lib.hid hn
  have Hnew := Lib.hid hnew
  have HB1 : Hid (B ≤ w1.heap.size) := Lib.hid (Nat.le_trans HB.out hb1.size)
  have c3 := HT1.out.ref.cells.2.2.2.1
  have hrl1 : r < w1.heap.size := HT1.out.ref.size
  have HD := Lib.hid (fun W (hW : Below w1.heap.size w1 W) => G.down a F s W (HT1.out.below hW).d)
  clear hb1 hrow hn hnew HT HN
  cases ho : s.off with
  | true =>
    rw [ho] at c3 HD
    rw [namesL_off ho] at Hn Hrow
    have hn0 : n = 0 := by simpa using Hn.out.symm
    have HU := Lib.hid (fun W (hW : Below w1.heap.size w1 W) => G.used a F s W (HT1.out.below hW).d HF.out)
    rw [usedS_off ho] at HU
    subst hn0
    go_wp2_with fail
    go_region_held3 (fun w' => w'.cell? ⟨r, 3, none⟩ = some (.bool true))
      (first
        | exact (hb2.cell (p := ⟨r, 3, none⟩) hrl1).trans c3
        | exact c3
        | go_keep)
      (first
        | (go_at_call 19; refine (HD.out _ (Below.refl _ _).drew).mono ?_; rintro e w2 ⟨rfl, hb2⟩))
    all_goals
      have m3 := (hb2.cell (p := ⟨r, 3, none⟩) hrl1).trans c3
      have hb2' : Below w1.heap.size w1 w2 := (Below.refl _ _).drew.trans hb2
      have Hb2 := Lib.hid hb2'
      clear hb2 hb2'
      go_wp2_with (go_at_call 20; refine (HU.out _ Hb2.out).mono ?_; rintro e w3 ⟨rfl, hb3⟩)
      go_ret
      have hb4 : Below w1.heap.size w1 w3 := Hb2.out.trans (hb3.mono Hb2.out.size)
      exact ⟨rfl, F, v, HT1.out.below hb4, Hb1.out.trans (hb4.mono HB1.out)⟩
  | false =>
    rw [ho] at c3 HD
    rw [namesL_on ho] at Hn Hrow
    have hnl : n = s.files.length := by simpa using Hn.out.symm
    have HU := Lib.hid (fun W (hW : Below w1.heap.size w1 W) => G.used a F s W (HT1.out.below hW).d HF.out)
    have HU2 := Lib.hid (fun W (hW : Below w1.heap.size w1 W) => refused_any r v s W (HT1.out.below hW).ref HF.out)
    rw [usedS_on ho] at HU
    have Ho := Lib.hid ho
    subst hnl
    obtain ⟨A2, cap2, hv⟩ := HT1.out.ref.slice
    subst hv
    have c0 := HT1.out.ref.cells.1
    clear ho
    go_wp2_with fail
    go_region_held3 (fun w' => w'.cell? ⟨r, 3, none⟩ = some (.bool false))
      (first
        | exact (hb2.cell (p := ⟨r, 3, none⟩) hrl1).trans c3
        | exact c3
        | go_keep)
      (first
        | (go_at_call 19; refine (HD.out _ (Below.refl _ _).drew).mono ?_; rintro e w2 ⟨rfl, hb2⟩))
    all_goals
      have m3 := (hb2.cell (p := ⟨r, 3, none⟩) hrl1).trans c3
      have m0 := (hb2.cell (p := ⟨r, 0, none⟩) hrl1).trans c0
      have hb2' : Below w1.heap.size w1 w2 := (Below.refl _ _).drew.trans hb2
      have Hb2 := Lib.hid hb2'
      clear hb2 hb2'
      go_wp2_with fail
      refine (HU.out _ Hb2.out).mono ?_
      rintro e w3 ⟨rfl, hb3⟩
      have Hb3 := Lib.hid (Hb2.out.trans (hb3.mono Hb2.out.size))
      clear hb3
      go_wp2_with fail
      refine (HU2.out _ Hb3.out).mono ?_
      rintro e w4 ⟨rfl, q, rfl⟩
      have Hb4 : Hid (Below w1.heap.size w1 (w3.drewN q)) := Lib.hid (below_drewN Hb3.out q)
      have HT4 := Lib.hid (HT1.out.below Hb4.out)
      have HB4 : Hid (B ≤ (w3.drewN q).heap.size) := Lib.hid (Nat.le_trans HB1.out Hb4.out.size)
      have Hrow4 := Lib.hid (Hrow.out.below Hb4.out (Nat.le_refl _))
      have Hw4 : Hid (Below B w (w3.drewN q)) := Lib.hid (Hb1.out.trans (Hb4.out.mono HB1.out))
      generalize w3.drewN q = w4 at *
      obtain ⟨n, hn⟩ : ∃ n, n = s.files.length := ⟨_, rfl⟩
      have HNl := Lib.hid hn
      have hlen : s.files.length ≤ 1000000 := HF.out.len
      clear m3 m0 hn Hb2 Hb3 HU HU2 HD c3 c0
      go_wp2
      go_loopw [47] (fun iv wr => ∃ i : Nat, ∃ F', i ≤ s.files.length ∧ iv = .int .i64 i ∧ Both G B wr a F' r (.slice A2 s.files.length cap2) s ∧ Below B w wr ∧ B ≤ wr.heap.size ∧ RowAt wr A (strC (s.files.map (·.1))) ∧ (∀ g off, A = some (⟨g, off, none⟩ : Addr) → ¬ F' g)) (fun iv _ => s.files.length - (intOf iv).toNat)
      case atStart => exact ⟨0, F, Nat.zero_le _, rfl, HT4.out, Hw4.out, HB4.out, Hrow4.out, Hnew.out⟩
      case round =>
        obtain ⟨i, F', hi, rfl, hT, hbw, hBr, hrw, hnF⟩ := hrel
        have HTr := Lib.hid hT
        have Hbw := Lib.hid hbw
        have HBr := Lib.hid hBr
        have Hrw := Lib.hid hrw
        have HnF := Lib.hid hnF
        clear hT hbw hBr hrw hnF
        by_cases hlt : i < s.files.length
        · have hltz : (i : Int) < (s.files.length : Int) := by omega
          obtain ⟨f, hf⟩ : ∃ f, s.files[i]? = some f := ⟨_, List.getElem?_eq_getElem hlt⟩
          obtain ⟨g, off, hA, hgl, d0⟩ := row_str Hrw.out i f.1 (by simp [hf])
          subst hA
          have HR := Lib.hid (G.read f.1 a F' s wr (G.short HTr.out.d f (List.mem_of_getElem? hf)) HTr.out.d HF.out)
          rw [readS_at Ho.out (G.rise HTr.out.d) hf] at HR
          go_wp2_with fail
          refine HR.out.mono ?_
          rintro e w5 ⟨rfl, F5, hd5, ho5, hg5⟩
          obtain ⟨T1, T2⟩ := HTr.out.looked HBr.out hd5 ho5 hg5
          have x0 := (ho5.cell (p := ⟨g, off + i, none⟩) hgl (HnF.out g off rfl)).trans d0
          have hrow5 : RowAt w5 (some ⟨g, off, none⟩) (strC (s.files.map (·.1))) := fun j x hx => by
            obtain ⟨g', off', hA', hl', hc'⟩ := Hrw.out j x hx
            injection hA' with hA'
            injection hA' with e1 e2
            subst e1 e2
            exact ⟨g, off, rfl, Nat.lt_of_lt_of_le hl' ho5.size, (ho5.cell (p := ⟨g, off + j, none⟩) hl' (HnF.out g off rfl)).trans hc'⟩
          have Hrow5 := Lib.hid hrow5
          have HnF5 : Hid (∀ g' off', (some ⟨g, off, none⟩ : Option Addr) = some (⟨g', off', none⟩ : Addr) → ¬ F5 g') := Lib.hid (fun g' off' e hF => by
            injection e with e
            injection e with e1 e2
            subst e1
            rcases hg5 g hF with h1 | h1
            · exact HnF.out g off rfl h1
            · omega)
          have HT5 := Lib.hid T1
          have Hb5 : Hid (Below B w w5) := Lib.hid (Hbw.out.trans T2)
          have HB5 : Hid (B ≤ w5.heap.size) := Lib.hid (Nat.le_trans HBr.out ho5.size)
          have y0 := T1.ref.cells.1
          obtain ⟨g2, cap3, hv, _, _, f0, f1, f2, _⟩ := T1.ref.file hf
          injection hv with hv1 hv2 hv3
          subst hv1
          have e1 : (bs f.2.1).size = f.2.1.length := bs_size _
          have e2 : (bs f.2.2).size = f.2.2.length := bs_size _
          have hus : sizeF f ≤ 1000000000 := Nat.le_trans (by have := used_drop s.files i f hf; have := used_le s.files (i + 1); omega) HF.out.used
          unfold sizeF at hus
          have hap : bs (f.2.1 ++ f.2.2) = bs f.2.1 ++ bs f.2.2 := (bs_append _ _).symm
          have hl6 : i < 1000000 := by omega
          clear T1 T2 hd5 ho5 hg5 hrow5 d0 hf hv2 hv3 HTr HR
          rw [hap]
          clear hap
          go_wp2
          go_quiet (fail)
          go_wp2
          go_roundw
          case rel => exact ⟨i + 1, F5, by omega, by go_num, HT5.out.below (below_drewN (Below.refl _ _) _), below_drewN Hb5.out _, HB5.out, Hrow5.out, HnF5.out⟩
          case measure => simp [intOf]; omega
        · have hltz : ¬ (i : Int) < (s.files.length : Int) := by omega
          go_wp2
          go_ret
          exact ⟨rfl, F', _, HTr.out, Hbw.out⟩
end Go.Proofs.Ytbgfkjafablfiaa
