/-
  What stands in a snapshot's file: the contracts of shot.contentOf and of the reference's Text.
-/
import Derived.Test.YtmgbmphheagdmaaGreatDoorMA
import Derived.Test.YtmgbmphheagdmaaGreatDoorKG
import Derived.Test.YtmgbmphheagdmaaGreatDoorKS
import Derived.Test.YtmgbmphheagdmaaGreatDoorGC
import Derived.Test.YtmgbmphheagdmaaGreatDoorHM
import Derived.Lib.ConvBytes
namespace Go.Proofs.YtmgbmphheagdmaaGreatDoor
open Go.RowKit

def bytesI (l : List UInt8) : List Int := l.map fun b => (b.toNat : Int)
theorem bytesI_ok (l : List UInt8) : ∀ c ∈ bytesI l, 0 ≤ c ∧ c < 256 := fun c hc => by
  obtain ⟨b, _, rfl⟩ := List.mem_map.1 hc
  have := b.toNat_lt
  omega
theorem row8_bytes (w : World) (s : ByteArray) (h : s.size ≤ 1000000000) : Row8 (Lib.bytesWorld w 5 s) (some ⟨w.heap.size, 0, none⟩) (bytesI (bl s)) := by
  refine ⟨bytesI_ok _, ?_, .inr ⟨_, _, rfl, fun i hi => ?_⟩⟩
  · unfold bytesI; rw [List.length_map, bl_length]; omega
  · unfold bytesI at *
    rw [List.length_map, bl_length] at hi
    rw [Nat.zero_add, Lib.bytesWorld_cell w 5 s i hi, bl_eq, List.getD_eq_getElem?_getD, List.getD_eq_getElem?_getD, List.getElem?_map]
    cases s.data.toList[i]? <;> rfl
theorem crc_int (l : List UInt8) : moreI 0 (bytesI l) = ((crcN l : Nat) : Int) := by
  have := (moreI_bd 0 (bytesI l)).1
  unfold crcN
  show moreI 0 (bytesI l) = ((moreI 0 (bytesI l)).toNat : Int)
  omega
theorem of_bytes (s : ByteArray) (w : World) (cap : Nat) (h : s.size ≤ 1000000000) : Calls Tryz.prog 63 #[.slice (some ⟨w.heap.size, 0, none⟩) s.size cap] (Lib.bytesWorld w 5 s) fun e w' => e = .returned (.int .u32 (crcN (bl s) : Nat)) ∧ w' = Lib.bytesWorld w 5 s :=
  (of_any _ s.size cap (bytesI (bl s)) _ (by unfold bytesI; rw [List.length_map, bl_length]) (row8_bytes w s h)).mono fun _ _ ⟨he, hw⟩ => ⟨by rw [he, crc_int], hw.symm⟩
theorem refof_bytes (s : ByteArray) (w : World) (cap : Nat) (h : s.size ≤ 2000000) : Calls Tryz.prog 68 #[.slice (some ⟨w.heap.size, 0, none⟩) s.size cap] (Lib.bytesWorld w 5 s) fun e w' => e = .returned (.int .u32 (crcN (bl s) : Nat)) ∧ Below (Lib.bytesWorld w 5 s).heap.size (Lib.bytesWorld w 5 s) w' :=
  (refof_any _ s.size cap (bytesI (bl s)) _ (by unfold bytesI; rw [List.length_map, bl_length]) h (row8_bytes w s (by omega))).mono fun _ _ ⟨he, hw⟩ => ⟨by
    rw [he, ← crc_int]; exact congrArg (fun z => Ending.returned (Value.int .u32 z)) (long_is 0 _ (bytesI_ok _)), hw⟩

theorem be4_cells (n : Nat) : byC (be4 n) = [.int .u8 ((n : Int) / 16777216 % 256), .int .u8 ((n : Int) / 65536 % 256), .int .u8 ((n : Int) / 256 % 256), .int .u8 ((n : Int) % 256)] := by
  rw [byC_eq]
  unfold be4
  have h : ∀ m : Nat, (UInt8.ofNat (m % 256)).toNat = m % 256 := fun m => by rw [UInt8.toNat_ofNat']; omega
  have e1 : ((n / 16777216 % 256 : Nat) : Int) = (n : Int) / 16777216 % 256 := by omega
  have e2 : ((n / 65536 % 256 : Nat) : Int) = (n : Int) / 65536 % 256 := by omega
  have e3 : ((n / 256 % 256 : Nat) : Int) = (n : Int) / 256 % 256 := by omega
  have e4 : ((n % 256 : Nat) : Int) = (n : Int) % 256 := by omega
  simp only [List.map_cons, List.map_nil, h, e1, e2, e3, e4]
/-- Four bytes as they lie in a new block, as a string. -/
theorem conv_four (w : World) (n : Nat) (h : n < 4294967296) :
    (convert 66 9 (.slice (some ⟨w.heap.size, 0, none⟩) 4 4)).run Tryz.prog (w.alloc (.cells #[.int .u8 ((n : Int) / 16777216), .int .u8 ((n : Int) / 65536 % 256), .int .u8 ((n : Int) / 256 % 256), .int .u8 ((n : Int) % 256)] 5)) =
      .ok (.string (bs (be4 n))) (w.alloc (.cells #[.int .u8 ((n : Int) / 16777216), .int .u8 ((n : Int) / 65536 % 256), .int .u8 ((n : Int) / 256 % 256), .int .u8 ((n : Int) % 256)] 5)) := by
  refine conv_row (l := be4 n) (rest := []) (t := 5) ?_ 4 4 rfl
  have := Holds.new w 5 #[.int .u8 ((n : Int) / 16777216), .int .u8 ((n : Int) / 65536 % 256), .int .u8 ((n : Int) / 256 % 256), .int .u8 ((n : Int) % 256)]
  rw [be4_cells, show (n : Int) / 16777216 % 256 = (n : Int) / 16777216 by omega]
  simpa using this

theorem wrN_ok {n : Int} {o : List UInt8} (h0 : 0 ≤ n) (h1 : n ≤ 4611686018427387903) (ho : o.length ≤ 1000000) : wrN n (o, 0) = (o ++ encL n.toNat, 0) ∧ (o ++ encL n.toNat).length ≤ o.length + 9 := by
  have h9 : (encL n.toNat).length ≤ 9 := encL_le9 (by unfold top; omega)
  unfold wrN wrP
  rw [if_neg (by simp), if_neg (by omega), if_neg (by simp only [List.length_nil]; omega), List.append_nil, List.length_append]
  exact ⟨rfl, by omega⟩
theorem wrT_ok {s o : List UInt8} (h : s.length ≤ 1048576) (ho : o.length ≤ 1000000) : wrT s (o, 0) = (o ++ encL s.length ++ s, 0) := by
  have h9 : (encL s.length).length ≤ 9 := encL_le9 (by unfold top; omega)
  unfold wrT wrP
  rw [if_neg (by simp), if_neg (by simp only; omega)]
theorem text_bs (s : Sh) : bs (textS s) = bs (be4 (crcN (bodyS s))) ++ bs (bodyS s) := by unfold textS; rw [bs_append]

set_option maxRecDepth 100000 in
set_option maxHeartbeats 4000000 in
/-- What stands in a snapshot's file. -/
theorem contentOf_any (r : Sh) (w : World) (hr : okS r) : Calls Tryz.prog 33 #[snapV r] w fun e w' => e = .returned (.string (bs (textS r))) ∧ Below w.heap.size w w' := by
  have hbody := body_le hr
  obtain ⟨i0, i1, t0, t1, hd⟩ := hr
  obtain ⟨p1, l1⟩ := wrN_ok (o := []) i0 (by omega) (by simp)
  rw [List.nil_append] at p1 l1
  obtain ⟨p2, l2⟩ := wrN_ok (o := encL r.i.toNat) t0 (by omega) (by simp at l1; omega)
  have p3 := wrT_ok (s := r.d) (o := encL r.i.toNat ++ encL r.t.toNat) hd (by simp at l1; omega)
  have he : encL r.i.toNat ++ encL r.t.toNat ++ encL r.d.length ++ r.d = bodyS r := by
    unfold bodyS; simp only [List.append_assoc]
  rw [he] at p3
  have hbl : bl (bs r.d) = r.d := bl_bs _
  have hbz : (bs r.d).size ≤ 281474976710656 := by rw [bs_size]; omega
  rw [← hbl] at p3
  have Htx := Lib.hid (text_bs r)
  have hpz : (bs (bodyS r)).size = (bodyS r).length := bs_size _
  have hbb := Lib.hid (bl_bs (bodyS r))
  have hcl := crc_lt (bodyS r)
  have h4z : (bs (be4 (crcN (bodyS r)))).size = 4 := by rw [bs_size]; rfl
  have hc4 := fun (W : World) => conv_four W (crcN (bodyS r)) hcl
  obtain ⟨cr, hcr⟩ : ∃ cr, cr = crcN (bodyS r) := ⟨_, rfl⟩
  rw [← hcr] at Htx hcl h4z hc4
  have Hcr := Lib.hid hcr
  unfold snapV
  obtain ⟨wb, hwb⟩ : ∃ wb, wb = (w.alloc (.cells #[.int .i64 r.i, .int .i64 r.t, .string (bs r.d)] 33)).alloc (.cells #[.slice none 0 0, .int .i64 0] 99) := ⟨_, rfl⟩
  have W0 : Hid (WrM wb (w.heap.size + 1) ([], 0)) := Lib.hid (by
    have := WrM.zero (w.alloc (.cells #[.int .i64 r.i, .int .i64 r.t, .string (bs r.d)] 33))
    rw [← hwb] at this
    simpa using this)
  have B0 : Hid (Below w.heap.size w wb) := Lib.hid (by rw [hwb]; exact ((Below.refl _ _).alloc (Nat.le_refl _) _).alloc (by simp) _)
  have c0 : wb.cell? ⟨w.heap.size, 0, none⟩ = some (.int .i64 r.i) := by rw [hwb]; simp
  have c1 : wb.cell? ⟨w.heap.size, 1, none⟩ = some (.int .i64 r.t) := by rw [hwb]; simp
  have c2 : wb.cell? ⟨w.heap.size, 2, none⟩ = some (.string (bs r.d)) := by rw [hwb]; simp
  have Hp := Lib.hid (And.intro p1 (And.intro p2 p3))
  have Hb := Lib.hid (And.intro i0 (And.intro i1 (And.intro t0 t1)))
  have Hz := Lib.hid hbz
  have Hw := Lib.hid hwb
  have Hc := Lib.hid (And.intro c0 (And.intro c1 c2))
  have Hbody := Lib.hid hbody
  clear p1 p2 p3 l1 l2 he hbl hbz hwb c0 c1 c2 i0 i1 t0 t1 hd hcr hbody
  generalize textS r = tx at *
  generalize bodyS r = pay at *
  generalize encL r.i.toNat ++ encL r.t.toNat = o2 at *
  generalize encL r.i.toNat = o1 at *
  obtain ⟨a, b, s⟩ := r
  simp only at *
  generalize bs s = t at *
  generalize bs (be4 cr) = q4 at *
  generalize bs tx = out at *
  go_enter Tryz.func33, Tryz.ntmps33
  have S0 := Lib.hid (wnum_any a _ wb _ W0.out ⟨by have := Hb.out; omega, by have := Hb.out; omega⟩)
  rw [Hp.out.1] at S0
  go_wp2_with fail
  rw [← Hw.out]
  refine S0.out.mono ?_
  rintro e w1 ⟨rfl, hw0, hb0⟩
  have W1 := Lib.hid hw0
  have D1 : Hid (Below (w.heap.size + 1) wb w1) := Lib.hid (hb0)
  clear hw0 hb0 S0
  have S1 := Lib.hid (wnum_any b _ w1 _ W1.out ⟨by have := Hb.out; omega, by have := Hb.out; omega⟩)
  rw [Hp.out.2.1] at S1
  have d1 : w1.cell? ⟨w.heap.size, 1, none⟩ = _ := (D1.out.cell (p := ⟨w.heap.size, 1, none⟩) (Nat.lt_succ_self _)).trans Hc.out.2.1
  go_wp2_with fail
  refine S1.out.mono ?_
  rintro e w2 ⟨rfl, hw1, hb1⟩
  have W2 := Lib.hid hw1
  have D2 : Hid (Below (w.heap.size + 1) wb w2) := Lib.hid (D1.out.trans hb1)
  clear hw1 hb1 S1 d1
  have S4 := Lib.hid (wtext_any t _ w2 _ W2.out Hz.out)
  rw [Hp.out.2.2] at S4
  have d4 : w2.cell? ⟨w.heap.size, 2, none⟩ = _ := (D2.out.cell (p := ⟨w.heap.size, 2, none⟩) (Nat.lt_succ_self _)).trans Hc.out.2.2
  go_wp2_with fail
  refine S4.out.mono ?_
  rintro e w5 ⟨rfl, hw4, hb4⟩
  have W5 := Lib.hid hw4
  have D5 : Hid (Below (w.heap.size + 1) wb w5) := Lib.hid (D2.out.trans hb4)
  clear hw4 hb4 S4 d4
  have S5 := Lib.hid (wbytes_any _ w5 _ W5.out)
  go_wp2_with fail
  refine S5.out.mono ?_
  rintro e w6 ⟨rfl, _, hb6⟩
  have B6 : Hid (Below w.heap.size w w6) := Lib.hid ((B0.out.trans (below_mono' D5.out (Nat.le_succ _))).trans (below_mono' hb6 (Nat.le_trans B0.out.size D5.out.size)))
  clear hb6 S5
  simp only
  generalize bs pay = P at *
  obtain ⟨w3, hw3⟩ : ∃ w3, w3 = Lib.bytesWorld w6 5 P := ⟨_, rfl⟩
  obtain ⟨cp, hcp⟩ : ∃ cp, cp = grownCap w6 P.size 0 5 := ⟨_, rfl⟩
  have hconv := Lib.run_convert_string_bytes (P := Tryz.prog) w6 9 66 5 P Tryz.underlying9 Tryz.underlying66 Tryz.underlying5
  have S3 := of_bytes P w6 cp (by have := Hbody.out; omega)
  have hb3 : Below w6.heap.size w6 w3 := by rw [hw3]; exact ⟨rfl, rfl, rfl, by rw [Lib.bytesWorld_size]; omega, fun j hj => Lib.bytesWorld_at_old _ _ _ j hj⟩
  rw [← hw3, ← hcp, hpz] at hconv
  rw [← hw3, hpz, hbb.out, ← Hcr.out] at S3
  have H3 := Lib.hid S3
  have B3 := Lib.hid (B6.out.trans (below_mono' hb3 B6.out.size))
  clear hw3 hcp hb3 S3
  go_wp2_with fail
  refine H3.out.mono ?_
  rintro e w4 ⟨rfl, rfl⟩
  clear H3 hconv
  have hpl := Hbody.out
  go_wp2
  go_ret
  exact ⟨by rw [Htx.out]; rfl, B3.out.alloc B3.out.size _⟩

set_option maxRecDepth 100000 in
set_option maxHeartbeats 4000000 in
/-- The reference's Text. -/
theorem refText_any (r : Sh) (w : World) (hr : okS r) : Calls Tryz.prog 40 #[snapV r] w fun e w' => e = .returned (.string (bs (textS r))) ∧ Below w.heap.size w w' := by
  have hbody := body_le hr
  obtain ⟨i0, i1, t0, t1, hd⟩ := hr
  have Htx := Lib.hid (text_bs r)
  have hpz : (bs (bodyS r)).size = (bodyS r).length := bs_size _
  have hbb := Lib.hid (bl_bs (bodyS r))
  have hcl := crc_lt (bodyS r)
  have h4z : (bs (be4 (crcN (bodyS r)))).size = 4 := by rw [bs_size]; rfl
  have hc4 := fun (W : World) => conv_four W (crcN (bodyS r)) hcl
  obtain ⟨cr, hcr⟩ : ∃ cr, cr = crcN (bodyS r) := ⟨_, rfl⟩
  rw [← hcr] at Htx hcl h4z hc4
  have Hcr := Lib.hid hcr
  obtain ⟨ni, hni⟩ : ∃ n : Nat, r.i = n := ⟨r.i.toNat, by omega⟩
  obtain ⟨nt, hnt⟩ : ∃ n : Nat, r.t = n := ⟨r.t.toNat, by omega⟩
  have hsd : (bs r.d).size = r.d.length := bs_size _
  have z1 : (bs (encL ni)).size = (encL ni).length := bs_size _
  have z2 : (bs (encL nt)).size = (encL nt).length := bs_size _
  have z3 : (bs (encL r.d.length)).size = (encL r.d.length).length := bs_size _
  have y1 : (encL ni).length ≤ 9 := encL_le9 (by unfold top; omega)
  have y2 : (encL nt).length ≤ 9 := encL_le9 (by unfold top; omega)
  have y3 : (encL r.d.length).length ≤ 9 := encL_le9 (by unfold top; omega)
  have Hpay : Hid (bs (encL ni) ++ bs (encL nt) ++ bs (encL r.d.length) ++ bs r.d = bs (bodyS r)) := Lib.hid (by
    unfold bodyS
    rw [hni, hnt, ← bs_append, ← bs_append, ← bs_append, Int.toNat_natCast, Int.toNat_natCast]
    simp only [ByteArray.append_assoc])
  unfold snapV
  rw [hni, hnt]
  obtain ⟨wb, hwb⟩ : ∃ wb, wb = w.alloc (.cells #[.int .i64 (ni : Int), .int .i64 (nt : Int), .string (bs r.d)] 33) := ⟨_, rfl⟩
  have B0 : Hid (Below w.heap.size w wb) := Lib.hid (by rw [hwb]; exact (Below.refl _ _).alloc (Nat.le_refl _) _)
  have L0 : Hid (w.heap.size < wb.heap.size) := Lib.hid (by rw [hwb]; simp)
  have c0 : wb.cell? ⟨w.heap.size, 0, none⟩ = some (.int .i64 (ni : Int)) := by rw [hwb]; simp
  have c1 : wb.cell? ⟨w.heap.size, 1, none⟩ = some (.int .i64 (nt : Int)) := by rw [hwb]; simp
  have c2 : wb.cell? ⟨w.heap.size, 2, none⟩ = some (.string (bs r.d)) := by rw [hwb]; simp
  have Hni : Hid (ni < 9223372036854775808 ∧ nt < 9223372036854775808 ∧ r.d.length < 9223372036854775808) := Lib.hid (by omega)
  have Hw := Lib.hid hwb
  have Hc := Lib.hid (And.intro c0 (And.intro c1 c2))
  have Hbody := Lib.hid hbody
  have hbd : r.d.length ≤ 1048576 := hd
  clear hwb c0 c1 c2 i0 i1 t0 t1 hd hcr hbody hni hnt
  generalize textS r = tx at *
  generalize bodyS r = pay at *
  obtain ⟨a, b, s⟩ := r
  simp only at *
  generalize bs s = t at *
  generalize bs (be4 cr) = q4 at *
  generalize bs tx = out at *
  have N1 : Hid (∀ x : InW (Below wb.heap.size wb), Calls Tryz.prog 67 #[.int .i64 (ni : Int)] x.wd fun e w'' => e = .returned (.string (bs (encL ni))) ∧ ∃ m : InW (Below wb.heap.size wb), w'' = m.wd) := Lib.hid (fun x =>
    (refnum_any ni x.wd Hni.out.1).mono fun e w'' ⟨he, hb⟩ => ⟨he, ⟨w'', x.ok.trans (below_mono' hb x.ok.size)⟩, rfl⟩)
  have N2 : Hid (∀ x : InW (Below wb.heap.size wb), Calls Tryz.prog 67 #[.int .i64 (nt : Int)] x.wd fun e w'' => e = .returned (.string (bs (encL nt))) ∧ ∃ m : InW (Below wb.heap.size wb), w'' = m.wd) := Lib.hid (fun x =>
    (refnum_any nt x.wd Hni.out.2.1).mono fun e w'' ⟨he, hb⟩ => ⟨he, ⟨w'', x.ok.trans (below_mono' hb x.ok.size)⟩, rfl⟩)
  have N3 : Hid (∀ x : InW (Below wb.heap.size wb), Calls Tryz.prog 67 #[.int .i64 (s.length : Int)] x.wd fun e w'' => e = .returned (.string (bs (encL s.length))) ∧ ∃ m : InW (Below wb.heap.size wb), w'' = m.wd) := Lib.hid (fun x =>
    (refnum_any s.length x.wd Hni.out.2.2).mono fun e w'' ⟨he, hb⟩ => ⟨he, ⟨w'', x.ok.trans (below_mono' hb x.ok.size)⟩, rfl⟩)
  have K0 : Hid (∀ x : InW (Below wb.heap.size wb), x.wd.cell? ⟨w.heap.size, 0, none⟩ = some (.int .i64 (ni : Int))) := Lib.hid (fun x => (x.ok.cell (p := ⟨w.heap.size, 0, none⟩) L0.out).trans Hc.out.1)
  have K1 : Hid (∀ x : InW (Below wb.heap.size wb), x.wd.cell? ⟨w.heap.size, 1, none⟩ = some (.int .i64 (nt : Int))) := Lib.hid (fun x => (x.ok.cell (p := ⟨w.heap.size, 1, none⟩) L0.out).trans Hc.out.2.1)
  have K2 : Hid (∀ x : InW (Below wb.heap.size wb), x.wd.cell? ⟨w.heap.size, 2, none⟩ = some (.string t)) := Lib.hid (fun x => (x.ok.cell (p := ⟨w.heap.size, 2, none⟩) L0.out).trans Hc.out.2.2)
  generalize bs (encL ni) = e1 at *
  generalize bs (encL nt) = e2 at *
  generalize bs (encL s.length) = e3 at *
  generalize (encL ni).length = n1 at *
  generalize (encL nt).length = n2 at *
  generalize (encL s.length).length = n3 at *
  generalize s.length = sl at *
  have hinh : Nonempty (InW (Below wb.heap.size wb)) := ⟨⟨wb, Below.refl _ wb⟩⟩
  go_enter Tryz.func40, Tryz.ntmps40
  go_wp2_with fail
  rw [← Hw.out]
  refine wp_region_quiet_in (Below wb.heap.size wb) (by kernel_rfl) (by kernel_rfl) ((Below.refl _ _).drew) ?_
  have Ki0 := K0.out
  have Ki1 := K1.out
  have Ki2 := K2.out
  repeat (go_big_quiet_step ((go_at_call 67; first | (with_reducible exact N1.out _) | (with_reducible exact N2.out _) | (with_reducible exact N3.out _))))
  refine wpQuiet_nil ?_
  intro w6 hx6
  obtain ⟨x6, hx6⟩ := hx6
  have hb6 : Below wb.heap.size wb w6 := by rw [hx6]; exact x6.ok
  clear hx6 x6 Ki0 Ki1 Ki2 hinh N1 N2 N3 K0 K1 K2
  have B6 : Hid (Below w.heap.size w w6) := Lib.hid (B0.out.trans (below_mono' hb6 B0.out.size))
  clear hb6
  rw [Hpay.out]
  generalize bs pay = P at *
  clear Hpay
  obtain ⟨w3, hw3⟩ : ∃ w3, w3 = Lib.bytesWorld w6 5 P := ⟨_, rfl⟩
  obtain ⟨cp, hcp⟩ : ∃ cp, cp = grownCap w6 P.size 0 5 := ⟨_, rfl⟩
  have hconv := Lib.run_convert_string_bytes (P := Tryz.prog) w6 9 66 5 P Tryz.underlying9 Tryz.underlying66 Tryz.underlying5
  have S3 := refof_bytes P w6 cp (by have := Hbody.out; omega)
  have hb3 : Below w6.heap.size w6 w3 := by rw [hw3]; exact ⟨rfl, rfl, rfl, by rw [Lib.bytesWorld_size]; omega, fun j hj => Lib.bytesWorld_at_old _ _ _ j hj⟩
  rw [← hw3, ← hcp, hpz] at hconv
  rw [← hw3, hpz, hbb.out, ← Hcr.out] at S3
  have H3 := Lib.hid S3
  have B3 := Lib.hid (B6.out.trans (below_mono' hb3 B6.out.size))
  clear hw3 hcp hb3 S3
  go_wp2_with fail
  refine H3.out.mono ?_
  rintro e w4 ⟨rfl, hb4⟩
  have B4 := Lib.hid (B3.out.trans (below_mono' hb4 B3.out.size))
  clear H3 hconv hb4
  have hpl := Hbody.out
  go_wp2
  go_ret
  exact ⟨by rw [Htx.out]; rfl, B4.out.alloc B4.out.size _⟩
end Go.Proofs.YtmgbmphheagdmaaGreatDoor
