/-
  The names of segments: the contracts of wal.fileOf and wal.numberIn.
-/
import Derived.Test.YtdneobnnmmlebaaGreatDoorWF
import Derived.Test.YtdneobnnmmlebaaGreatDoorKF
namespace Go.Proofs.YtdneobnnmmlebaaGreatDoor
open Go.RowKit Go.Shelf

theorem digs_snoc : ∀ k n, digsL (k + 1) n = digsL k (n / 10) ++ [UInt8.ofNat (48 + n % 10)]
  | 0, n => by simp [digsL]
  | k + 1, n => by
    rw [digsL, digs_snoc k n, digsL]
    have e : n / 10 / 10 ^ k = n / 10 ^ (k + 1) := by rw [Nat.div_div_eq_div_mul, Nat.pow_succ, Nat.mul_comm]
    rw [e]
    rfl
theorem digs_zero : ∀ k, digsL k 0 = List.replicate k 48
  | 0 => rfl
  | k + 1 => by rw [digsL, digs_zero k, List.replicate_succ]; simp
theorem digs_dec : ∀ k n, 1 ≤ k → n < 10 ^ k → (Lib.decDigits n).length ≤ k ∧ digsL k n = List.replicate (k - (Lib.decDigits n).length) 48 ++ Lib.decDigits n
  | 0, _, h, _ => by omega
  | k + 1, n, _, h => by
    by_cases h10 : n < 10
    · rw [Lib.decDigits, dif_pos h10, digs_snoc, show n / 10 = 0 by omega, digs_zero, show n % 10 = n by omega]
      exact ⟨by simp, by simp⟩
    · have h1 : 1 ≤ k := by
        rcases Nat.eq_zero_or_pos k with rfl | h1
        · simp at h; omega
        · exact h1
      obtain ⟨a, b⟩ := digs_dec k (n / 10) h1 (by rw [Nat.pow_succ] at h; omega)
      rw [Lib.decDigits, dif_neg h10, digs_snoc, b, List.length_append, List.append_assoc]
      refine ⟨by simp; omega, ?_⟩
      simp
theorem fileL_eq {n : Nat} (h : n ≤ mostS) : (Lib.decDigits n).length ≤ 12 ∧ fileL n = [119] ++ (List.replicate (12 - (Lib.decDigits n).length) 48 ++ Lib.decDigits n) := by
  obtain ⟨a, b⟩ := digs_dec 12 n (by decide) (by unfold mostS at h; omega)
  exact ⟨a, by rw [fileL, b]; rfl⟩

theorem itoa_any (n : Nat) (w : World) (hn : n ≤ 9223372036854775807) (ht : Lib.TabIs Tryz.prog w "internal/strconv.uint64pow10" .u64 Lib.pow10Tab) :
    Calls Tryz.prog 54 #[.int .i64 (n : Int)] w fun e w' => e = .returned (.string (bs (Lib.decDigits n))) ∧ Below w.heap.size w w' :=
  (Any.strconv_Itoa itoaLays (n : Int) (by omega) (by omega) w ht).mono fun e w' ⟨he, k, os, hw⟩ => ⟨by
    rw [he, bs_eq, Lib.itoa, if_neg (by omega)]; rfl, by rw [hw]; exact Lib.below_grow _ _ (Nat.le_refl _) _ _⟩
theorem repeat_any (c : Nat) (w : World) (hc : c ≤ 12) : Calls Tryz.prog 55 #[.string { data := #[48] }, .int .i64 (c : Int)] w fun e w' => e = .returned (.string (bs (List.replicate c 48))) ∧ Below w.heap.size w w' :=
  (Any.strings_Repeat repeatLays extraL { data := #[48] } c w (by omega) (by show 1 * c ≤ _; omega)).mono fun e w' ⟨he, hb⟩ => ⟨by
    rw [he, bs_eq]
    congr 3
    have := Lib.repeatL_replicate 48 1 c
    rw [Nat.mul_one] at this
    rw [← this]
    rfl, hb⟩

set_option maxRecDepth 100000 in
set_option maxHeartbeats 2000000 in
/-- The name of a segment. -/
theorem fileOf_any (n : Nat) (w : World) (hn : n ≤ mostS) (ht : Lib.TabIs Tryz.prog w "internal/strconv.uint64pow10" .u64 Lib.pow10Tab) :
    Calls Tryz.prog 34 #[.int .i64 (n : Int)] w fun e w' => e = .returned (.string (bs (fileL n))) ∧ Below w.heap.size w w' := by
  obtain ⟨hl, hf⟩ := fileL_eq hn
  obtain ⟨f, hff⟩ : ∃ f, f = bs (fileL n) := ⟨_, rfl⟩
  rw [← hff]
  rw [hf] at hff
  have HI := Lib.hid (itoa_any n w (by unfold mostS at hn; omega) ht)
  have hs : (bs (Lib.decDigits n)).size = (Lib.decDigits n).length := bs_size _
  have HR := Lib.hid (fun (W : World) => repeat_any (12 - (Lib.decDigits n).length) W (by omega))
  have hs2 : (bs (List.replicate (12 - (Lib.decDigits n).length) (48 : UInt8))).size = 12 - (Lib.decDigits n).length := by rw [bs_size]; simp
  have He : Hid (f = ({ data := #[119] } : ByteArray) ++ bs (List.replicate (12 - (Lib.decDigits n).length) 48) ++ bs (Lib.decDigits n))   := Lib.hid (by
    rw [hff, ← List.append_assoc, ← bs_append, ← bs_append]
    congr 2
    rw [bs_eq])
  clear hf hff ht hn
  generalize (Lib.decDigits n).length = k at *
  generalize bs (Lib.decDigits n) = d at *
  obtain ⟨q, hq⟩ : ∃ q, q = 12 - k := ⟨_, rfl⟩
  have hqk : (12 : Int) - (k : Int) = (q : Int) := by omega
  rw [← hq] at HR hs2 He
  clear hq
  generalize bs (List.replicate q 48) = r at *
  go_enter Tryz.func34, Tryz.ntmps34
  go_wp2_with (go_at_call 54; refine HI.out.mono ?_; rintro e w1 ⟨rfl, hb1⟩; have B1 := Lib.hid hb1; clear hb1)
  go_wp2_with (go_at_call 55; refine (HR.out _).mono ?_; rintro e w2 ⟨rfl, hb2⟩; have B2 := Lib.hid (B1.out.trans (hb2.mono B1.out.size)); clear hb2)
  go_ret
  exact ⟨by rw [He.out]; rfl, B2.out⟩

/-- The value of digits. -/
def valD (l : List UInt8) : Nat := l.foldl (fun n c => 10 * n + (c.toNat - 48)) 0
def digP (c : UInt8) : Prop := 48 ≤ c.toNat ∧ c.toNat ≤ 57
instance (c : UInt8) : Decidable (digP c) := by unfold digP; infer_instance
theorem valD_snoc (l : List UInt8) (c : UInt8) : valD (l ++ [c]) = 10 * valD l + (c.toNat - 48) := by simp [valD]
/-- What numberIn answers. -/
def numN (l : List UInt8) : Nat := match l with
  | [] => 0
  | c :: ds => if c = 119 ∧ ds.length = 12 ∧ ∀ c ∈ ds, digP c then valD ds else 0
theorem valD_digs : ∀ k n, valD (digsL k n) = n % 10 ^ k
  | 0, n => by simp [digsL, valD, Nat.mod_one]
  | k + 1, n => by
    rw [digs_snoc, valD_snoc, valD_digs k (n / 10), UInt8.toNat_ofNat']
    have e : n % 10 ^ (k + 1) = n % 10 + 10 * (n / 10 % 10 ^ k) := by rw [Nat.pow_succ, Nat.mul_comm, Nat.mod_mul]
    rw [e]
    omega
theorem digs_dig (k n : Nat) : ∀ c ∈ digsL k n, digP c := by
  induction k with
  | zero => intro c hc; cases hc
  | succ k ih =>
    intro c hc
    rw [digsL] at hc
    rcases List.mem_cons.1 hc with rfl | hc
    · unfold digP; rw [dig_nat]; omega
    · exact ih c hc
theorem digs_val (l : List UInt8) : (∀ c ∈ l, digP c) → digsL l.length (valD l) = l := by
  induction h : l.length generalizing l with
  | zero => intro _; rw [List.eq_nil_of_length_eq_zero h]; rfl
  | succ k ih =>
    intro hd
    have hne : l ≠ [] := fun e => by rw [e] at h; cases h
    obtain ⟨m, c, rfl⟩ : ∃ m c, l = m ++ [c] := ⟨l.dropLast, l.getLast hne, (List.dropLast_concat_getLast hne).symm⟩
    have hm : m.length = k := by simpa using h
    have hc := hd c (by simp)
    unfold digP at hc
    have e1 : (10 * valD m + (c.toNat - 48)) / 10 = valD m := by omega
    have e2 : (10 * valD m + (c.toNat - 48)) % 10 = c.toNat - 48 := by omega
    rw [valD_snoc, digs_snoc, e1, e2, ih m hm (fun x hx => hd x (by simp [hx]))]
    congr 2
    apply UInt8.toNat_inj.1
    rw [UInt8.toNat_ofNat']
    omega
theorem valD_lt (l : List UInt8) (h : ∀ c ∈ l, digP c) : valD l < 10 ^ l.length := by
  have := digs_val l h
  have e := valD_digs l.length (valD l)
  rw [this] at e
  rw [e]
  exact Nat.mod_lt _ (Nat.pow_pos (by decide))
theorem numN_file {n : Nat} (h : n ≤ mostS) : numN (fileL n) = n := by
  unfold numN fileL
  simp only
  rw [if_pos ⟨trivial, digsL_len 12 n, digs_dig 12 n⟩, valD_digs]
  exact Nat.mod_eq_of_lt (by unfold mostS at h; omega)
theorem numN_seg {l : List UInt8} (h : numN l ≠ 0) : numN l ≤ mostS ∧ l = fileL (numN l) := by
  unfold numN at *
  cases l with
  | nil => simp at h
  | cons c ds =>
    simp only at h ⊢
    by_cases hc : c = 119 ∧ ds.length = 12 ∧ ∀ c ∈ ds, digP c
    · rw [if_pos hc]
      obtain ⟨rfl, h12, hd⟩ := hc
      have h1 := valD_lt ds hd
      rw [h12] at h1
      refine ⟨by unfold mostS; omega, ?_⟩
      unfold fileL
      have := digs_val ds hd
      rw [h12] at this
      rw [this]
    · rw [if_neg hc] at h; exact absurd rfl h
theorem numN_le (l : List UInt8) : numN l ≤ mostS := by
  by_cases h : numN l = 0
  · rw [h]; exact Nat.zero_le _
  · exact (numN_seg h).1

theorem cut_any (s : ByteArray) (w : World) : Calls Tryz.prog 60 #[.string s, .string { data := #[119] }] w fun e w' => e = .returned (.tuple #[.string (bs (Lib.trimPrefix (bl s) [119])), .bool (Lib.hasPrefix (bl s) [119])]) ∧ w' = w :=
  (Any.strings_CutPrefix cutLays s { data := #[119] } w).mono fun e w' ⟨he, hw⟩ => ⟨by rw [he, bs_eq, bl_eq], hw⟩
theorem numD_stop {ds : List UInt8} {i : Nat} (hi : i < ds.length) (h : ¬ digP (ds.getD i 0)) : numN (119 :: ds) = 0 := by
  unfold numN
  simp only
  rw [if_neg]
  rintro ⟨_, _, hd⟩
  refine h (hd _ ?_)
  rw [List.getD_eq_getElem?_getD, List.getElem?_eq_getElem hi]
  simp

set_option maxRecDepth 100000 in
set_option maxHeartbeats 2000000 in
theorem numberIn_any (l : List UInt8) (w : World) (hmax : l.length ≤ 9223372036854775807) :
    Calls Tryz.prog 46 #[.string (bs l)] w fun e w' => e = .returned (.int .i64 (numN l : Nat)) ∧ w' = w := by
  have HC := Lib.hid (cut_any (bs l) w)
  rw [bl_bs] at HC
  by_cases hp : ∃ ds, l = 119 :: ds
  · obtain ⟨ds, rfl⟩ := hp
    have e1 : Lib.trimPrefix (119 :: ds) [119] = ds := by simp [Lib.trimPrefix, Lib.hasPrefix, List.isPrefixOf]
    have e2 : Lib.hasPrefix (119 :: ds) [119] = true := by simp [Lib.hasPrefix, List.isPrefixOf]
    rw [e1, e2] at HC
    clear e1 e2
    have hsz : (bs ds).size = ds.length := bs_size ds
    have Hbl := Lib.hid (bl_bs ds)
    by_cases h12 : ds.length = 12
    · rw [h12] at hsz
      have Hfin : Hid ((∀ c ∈ ds, digP c) → numN (119 :: ds) = valD ds) := Lib.hid (fun h => by unfold numN; simp only; rw [if_pos ⟨trivial, h12, h⟩])
      have Hst : Hid (∀ i, i < 12 → ¬ digP (ds.getD i 0) → numN (119 :: ds) = 0) := Lib.hid (fun i hi h => numD_stop (by omega) h)
      have H12 := Lib.hid h12
      clear hmax h12
      generalize numN (119 :: ds) = r at *
      generalize bs (119 :: ds) = s0 at *
      generalize bs ds = s at *
      go_enter Tryz.func46, Tryz.ntmps46
      go_wp2_with (go_at_call 60; refine HC.out.mono ?_; rintro e w1 ⟨rfl, rfl⟩)
      go_loopw [5, 21] (fun nv iv wr => ∃ i : Nat, i ≤ 12 ∧ iv = .int .i64 i ∧ nv = .int .i64 (valD (ds.take i) : Nat) ∧ (∀ c ∈ ds.take i, digP c) ∧ wr = w1) (fun _ iv _ => 12 - (intOf iv).toNat)
      case atStart => exact ⟨0, by omega, rfl, rfl, fun c h => by simp at h, rfl⟩
      case round =>
        obtain ⟨i, hi, rfl, rfl, hd, rfl⟩ := hrel
        have Hd := Lib.hid hd
        clear hd
        by_cases hlt : i < 12
        · have hlt2 : i < s.size := by omega
          obtain ⟨c, hc⟩ : ∃ c, s[i].toNat = c := ⟨_, rfl⟩
          have Hc : Hid ((ds.getD i 0).toNat = c) := Lib.hid (by rw [← Hbl.out, ← bl_get s i hlt2, hc])
          have hc256 : c < 256 := by rw [← hc]; exact s[i].toNat_lt
          have Hv : Hid (valD (ds.take i) < 1000000000000) := Lib.hid (by
            have h1 := valD_lt (ds.take i) Hd.out
            have h2 : (ds.take i).length ≤ 12 := by rw [List.length_take]; omega
            have h3 : 10 ^ (ds.take i).length ≤ 10 ^ 12 := Nat.pow_le_pow_right (by omega) h2
            omega)
          have Htk : Hid (ds.take (i + 1) = ds.take i ++ [ds.getD i 0]) := Lib.hid (by
            have hl : i < ds.length := by rw [H12.out]; exact hlt
            rw [List.take_succ_eq_append_getElem hl, List.getD_eq_getElem?_getD, List.getElem?_eq_getElem hl]; rfl)
          by_cases h48 : c < 48
          · have Hr := Lib.hid (Hst.out i hlt (fun h => by unfold digP at h; rw [Hc.out] at h; omega))
            have h48' : (c : Int) < 48 := by omega
            clear Hfin Hst
            go_wp2
            exact bodyPost_ret (v := .int .i64 0) (by simp [results, go_sem]) rfl ⟨by rw [Hr.out]; rfl, rfl⟩
          · by_cases h57 : 57 < c
            · have Hr := Lib.hid (Hst.out i hlt (fun h => by unfold digP at h; rw [Hc.out] at h; omega))
              have h48' : ¬ (c : Int) < 48 := by omega
              have h57' : (57 : Int) < c := by omega
              clear Hfin Hst
              go_wp2
              exact bodyPost_ret (v := .int .i64 0) (by simp [results, go_sem]) rfl ⟨by rw [Hr.out]; rfl, rfl⟩
            · have h48' : ¬ (c : Int) < 48 := by omega
              have h57' : ¬ (57 : Int) < c := by omega
              have Hdn : Hid (∀ x ∈ ds.take (i + 1), digP x) := Lib.hid (by
                rw [Htk.out]
                intro x hx
                rcases List.mem_append.1 hx with hx | hx
                · exact Hd.out x hx
                · obtain rfl : x = ds.getD i 0 := by simpa using hx
                  unfold digP; rw [Hc.out]; omega)
              have Hvn : Hid (valD (ds.take (i + 1)) = 10 * valD (ds.take i) + (c - 48)) := Lib.hid (by rw [Htk.out, valD_snoc, Hc.out])
              obtain ⟨v, hv⟩ : ∃ v, v = valD (ds.take i) := ⟨_, rfl⟩
              rw [← hv] at Hv Hvn
              have hv1 : v < 1000000000000 := Hv.out
              have hm1 : ((c : Int) - 48) % 256 = (c : Int) - 48 := by omega
              have Hvv := Lib.hid hv
              rw [← hv]
              clear hv Hfin Hst
              go_wp2
              go_roundw
              case rel => exact ⟨i + 1, by omega, by go_num, by rw [Hvn.out]; go_num, Hdn.out, trivial⟩
              case measure => simp [intOf]; omega
        · have h12 : i = 12 := by omega
          subst h12
          have htk : ds.take 12 = ds := List.take_of_length_le (by rw [H12.out]; omega)
          have Hr : Hid (r = valD ds) := Lib.hid (Hfin.out (by have := Hd.out; rw [htk] at this; exact this))
          rw [htk]
          clear htk Hfin Hst
          go_wp2
          go_ret
          exact ⟨by rw [Hr.out]; rfl, rfl⟩
    · have Hr : Hid (numN (119 :: ds) = 0) := Lib.hid (by unfold numN; simp only; rw [if_neg (fun h => h12 h.2.1)])
      have h12' : ((ds.length : Int) == 12) = false := by rw [beq_eq_false_iff_ne]; omega
      clear h12
      generalize numN (119 :: ds) = r at *
      generalize bs (119 :: ds) = s0 at *
      generalize bs ds = s at *
      go_enter Tryz.func46, Tryz.ntmps46
      go_wp2_with (go_at_call 60; refine HC.out.mono ?_; rintro e w1 ⟨rfl, rfl⟩)
      exact bodyPost_ret (v := .int .i64 0) (by simp [results, go_sem]) rfl ⟨by rw [Hr.out]; rfl, rfl⟩
  · have e2 : Lib.hasPrefix l [119] = false := by
      unfold Lib.hasPrefix
      cases l with
      | nil => rfl
      | cons c ds =>
        have : (119 : UInt8) ≠ c := fun e => hp ⟨ds, by rw [← e]⟩
        simp [List.isPrefixOf, this]
    rw [e2] at HC
    have Hr : Hid (numN l = 0) := Lib.hid (by
      unfold numN
      cases l with
      | nil => rfl
      | cons c ds => simp only; rw [if_neg (fun h => hp ⟨ds, by rw [h.1]⟩)])
    clear e2 hp hmax
    generalize numN l = r at *
    generalize bs (Lib.trimPrefix l [119]) = s1 at *
    generalize bs l = s0 at *
    go_enter Tryz.func46, Tryz.ntmps46
    go_wp2_with (go_at_call 60; refine HC.out.mono ?_; rintro e w1 ⟨rfl, rfl⟩)
    exact bodyPost_ret (v := .int .i64 0) (by simp [results, go_sem]) rfl ⟨by rw [Hr.out]; rfl, rfl⟩
end Go.Proofs.YtdneobnnmmlebaaGreatDoor
