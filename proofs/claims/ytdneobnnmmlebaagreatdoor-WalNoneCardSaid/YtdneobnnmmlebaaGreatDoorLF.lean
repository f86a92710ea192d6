/- Texts of one claim, joined: LC LD LE LF. -/
import Derived.Test.YtdneobnnmmlebaaGreatDoorLB
import Derived.RegionTactic
import Derived.ChangeAlike
import Derived.Test.YtdneobnnmmlebaaGreatDoorWN
import Derived.Lib.ConvBytes
/-
  The contracts of wal.header, appendNumber and numberOf.
-/
namespace Go.Proofs.YtdneobnnmmlebaaGreatDoor
open Go.RowKit

def headR (c : Nat) : Rc := ⟨1, c, 0, 0, []⟩
set_option maxRecDepth 100000 in
theorem header_any (c : Nat) (w : World) : Calls Tryz.prog 33 #[.int .i64 (c : Int)] w fun e w' => e = .returned (recV (headR c)) ∧ Below w.heap.size w w' := by
  have Hv : Hid (recV (headR c) = .agg #[.int .i64 1, .int .i64 (c : Int), .int .i64 0, .int .i64 0, .string { data := #[] }]) := Lib.hid (by unfold recV headR; simp only; rw [bs_nil])
  rw [Hv.out]
  clear Hv
  go_enter Tryz.func33, Tryz.ntmps33
  go_wp2
  refine bodyPost_ret (v := .agg #[.int .i64 1, .int .i64 (c : Int), .int .i64 0, .int .i64 0, .string { data := #[] }]) (by simp [results, Tryz.results33, go_sem]) rfl ⟨rfl, ?_⟩
  exact (Below.refl _ _).alloc (Nat.le_refl _) _

theorem be4_cells (n : Nat) : byC (be4 n) = [.int .u8 ((n : Int) / 16777216 % 256), .int .u8 ((n : Int) / 65536 % 256), .int .u8 ((n : Int) / 256 % 256), .int .u8 ((n : Int) % 256)] := by
  rw [byC_eq]
  unfold be4
  have h : ∀ m : Nat, (UInt8.ofNat (m % 256)).toNat = m % 256 := fun m => by rw [UInt8.toNat_ofNat']; omega
  have e1 : ((n / 16777216 % 256 : Nat) : Int) = (n : Int) / 16777216 % 256 := by omega
  have e2 : ((n / 65536 % 256 : Nat) : Int) = (n : Int) / 65536 % 256 := by omega
  have e3 : ((n / 256 % 256 : Nat) : Int) = (n : Int) / 256 % 256 := by omega
  have e4 : ((n % 256 : Nat) : Int) = (n : Int) % 256 := by omega
  simp only [List.map_cons, List.map_nil, h, e1, e2, e3, e4]

set_option maxRecDepth 100000 in
set_option maxHeartbeats 2000000 in
/-- Four bytes put behind a row of the caller's own. -/
theorem appendNumber_any (n : Nat) (B : Nat) (p : Option Addr) (m cap : Nat) (xs : List Value) (w : World) (hn : n < 4294967296) (hB : B ≤ w.heap.size) (hown : w.ownsRow B 5 1 (.slice p m cap) m xs) (hm : m ≤ 10000000) :
    Calls Tryz.prog 52 #[.slice p m cap, .int .u32 (n : Int)] w fun e w' => ∃ g cap', e = .returned (.slice (some ⟨g, 0, none⟩) (m + 4) cap') ∧ w'.ownsRow B 5 1 (.slice (some ⟨g, 0, none⟩) (m + 4) cap') (m + 4) (xs ++ byC (be4 n)) ∧ Below B w w' := by
  obtain ⟨i0, hi0, hz0, hz1, hz2⟩ := info_parts info5
  have Hown := Lib.hid hown
  have Hbe := Lib.hid (be4_cells n)
  clear hown
  have h24 : (n : Int) / 16777216 % 256 = (n : Int) / 16777216 := by omega
  rw [h24] at Hbe
  clear h24
  have HN : ∀ o : Obj, Hid ((w.alloc o).ownsRow B 5 1 (.slice p m cap) m xs) := fun o => Lib.hid (own_below Hown.out ((Below.refl _ _).alloc (Nat.le_refl _) _))
  have HB : ∀ o : Obj, Hid (B ≤ (w.alloc o).heap.size) := fun o => Lib.hid (Nat.le_trans hB (by simp))
  have Hm1 : Hid (m + 4 ≤ maxLen) := Lib.hid (by unfold maxLen; omega)
  have Hm2 : Hid ((m + 4) * 1 ≤ 140737488355328) := Lib.hid (by omega)
  have Hcs : Hid (∀ j u, (byC (be4 n))[j]? = some u → (w.alloc (.cells #[.int .u8 ((n : Int) / 16777216), .int .u8 ((n : Int) / 65536 % 256), .int .u8 ((n : Int) / 256 % 256), .int .u8 ((n : Int) % 256)] 5)).cell? ((⟨w.heap.size, 0, none⟩ : Addr).add j) = some u) := Lib.hid (by
    rw [Hbe.out]
    intro j u hu
    have hj : j < 4 := (List.getElem?_eq_some_iff.1 hu).1
    have : j = 0 ∨ j = 1 ∨ j = 2 ∨ j = 3 := by omega
    rcases this with rfl | rfl | rfl | rfl <;> simp at hu <;> subst hu <;> simp [Addr.add])
  have H1 : Hid (∀ u ∈ byC (be4 n), u.oneCell' = true) := Lib.hid (by
    rw [Hbe.out]; intro u hu; simp at hu; rcases hu with rfl | rfl | rfl | rfl <;> rfl)
  have Hl : Hid ((byC (be4 n)).length = 4 * 1) := Lib.hid (by rw [Hbe.out]; rfl)
  have Hbl : Hid (∀ (w' : World) (o : Obj) (v : Value), (w.alloc o).grownBy w' v.ownBlock → (∀ k, v.ownBlock = some k → B ≤ k) → Below B w w') := Lib.hid (fun w' o v hg hk => (below_mono' ((Below.refl _ _).alloc (Nat.le_refl _) o) hB).grown hg (Nat.le_trans hB (by simp)) hk)
  have Hk : Hid (∀ k, (Value.slice p m cap).ownBlock = some k → B ≤ k) := Lib.hid (fun k hk => (World.ownsRow.lt Hown.out k hk).1)
  clear Hbe
  generalize byC (be4 n) = cs at *
  go_enter Tryz.func52, Tryz.ntmps52
  go_wp2_with (at_builtin; go_loud (refine wpList_append_own _ rfl (.tmp 5) (.tmp 17) 50 rfl B 5 i0 (.int .u8 0) 1 1 Tryz.underlying50 hi0 hz0 hz1 hz2 rfl (by decide) (.slice p m cap) m xs rfl (HN _).out ⟨w.heap.size, 0, none⟩ 4 4 cs rfl Hl.out Hcs.out H1.out Hm1.out Hm2.out (HB _).out ?_); intro v2 w2 hown2 hgrow2 hiff2; obtain ⟨g2, cap2, rfl, hg2a, hg2b⟩ := hown2.form (by omega))
  go_ret
  exact ⟨g2, cap2, rfl, hown2, Hbl.out _ _ _ hgrow2 Hk.out⟩

theorem or_be (a b : Nat) (k : Nat) (hb : b < 2 ^ k) (h : 2 ^ k * a + b < 4294967296) : bits BinOp.or .u32 ((2 ^ k * a : Nat) : Int) (b : Int) = ((2 ^ k * a + b : Nat) : Int) := by
  have e1 : (BitVec.ofInt 32 ((2 ^ k * a : Nat) : Int)).toNat = 2 ^ k * a := by
    rw [BitVec.ofInt_natCast, BitVec.toNat_ofNat]; exact Nat.mod_eq_of_lt (by omega)
  have e2 : (BitVec.ofInt 32 (b : Int)).toNat = b := by
    rw [BitVec.ofInt_natCast, BitVec.toNat_ofNat]; exact Nat.mod_eq_of_lt (by omega)
  show IntKind.u32.wrap ((BitVec.ofInt 32 ((2 ^ k * a : Nat) : Int) ||| BitVec.ofInt 32 (b : Int)).toNat : Int) = _
  rw [BitVec.toNat_or, e1, e2, ← Nat.two_pow_add_eq_or_of_lt hb]
  generalize 2 ^ k * a + b = z at h ⊢
  show (z : Int) % 4294967296 = (z : Int)
  omega
/-- The number of four bytes. -/
def numBe (l : List UInt8) : Nat := ((((l.getD 0 0).toNat * 256 + (l.getD 1 0).toNat) * 256) + (l.getD 2 0).toNat) * 256 + (l.getD 3 0).toNat

set_option maxRecDepth 100000 in
set_option maxHeartbeats 2000000 in
theorem numberOf_any (s : ByteArray) (w : World) (hs : 4 ≤ s.size) : Calls Tryz.prog 81 #[.string s] w fun e w' => e = .returned (.int .u32 (numBe (bl s) : Nat)) ∧ Below w.heap.size w w' := by
  have h0 : 0 < s.size := by omega
  have h1 : 1 < s.size := by omega
  have h2 : 2 < s.size := by omega
  have h3 : 3 < s.size := by omega
  obtain ⟨a, ha⟩ : ∃ a, s[0].toNat = a := ⟨_, rfl⟩
  obtain ⟨b, hb⟩ : ∃ a, s[1].toNat = a := ⟨_, rfl⟩
  obtain ⟨c, hc⟩ : ∃ a, s[2].toNat = a := ⟨_, rfl⟩
  obtain ⟨d, hd⟩ : ∃ a, s[3].toNat = a := ⟨_, rfl⟩
  have a256 : a < 256 := by rw [← ha]; exact s[0].toNat_lt
  have b256 : b < 256 := by rw [← hb]; exact s[1].toNat_lt
  have c256 : c < 256 := by rw [← hc]; exact s[2].toNat_lt
  have d256 : d < 256 := by rw [← hd]; exact s[3].toNat_lt
  have Hn : Hid (numBe (bl s) = ((a * 256 + b) * 256 + c) * 256 + d) := Lib.hid (by
    unfold numBe
    rw [← bl_get s 0 h0, ← bl_get s 1 h1, ← bl_get s 2 h2, ← bl_get s 3 h3, ha, hb, hc, hd])
  generalize numBe (bl s) = r at *
  go_enter Tryz.func81, Tryz.ntmps81
  go_wp2
  go_region
  have o1 := or_be a (b * 65536) 24 (by omega) (by omega)
  have o2 := or_be (a * 256 + b) (c * 256) 16 (by omega) (by omega)
  have o3 := or_be ((a * 256 + b) * 256 + c) d 8 (by omega) (by omega)
  have q1 : ((2 ^ 24 * a : Nat) : Int) = (a : Int) * 16777216 := by omega
  have q2 : ((b * 65536 : Nat) : Int) = (b : Int) * 65536 := by omega
  have q3 : ((2 ^ 24 * a + b * 65536 : Nat) : Int) = ((2 ^ 16 * (a * 256 + b) : Nat) : Int) := by omega
  have q4 : ((c * 256 : Nat) : Int) = (c : Int) * 256 := by omega
  have q5 : ((2 ^ 16 * (a * 256 + b) + c * 256 : Nat) : Int) = ((2 ^ 8 * ((a * 256 + b) * 256 + c) : Nat) : Int) := by omega
  rw [q1, q2, q3] at o1
  rw [q4, q5] at o2
  have Ho := Lib.hid (And.intro o1 (And.intro o2 o3))
  clear o1 o2 o3 q1 q2 q3 q4 q5
  go_wp2
  go_ret
  refine ⟨?_, (Below.refl _ _).drew⟩
  refine congrArg (fun z => Ending.returned (Value.int .u32 z)) ?_
  show bits BinOp.or IntKind.u32 (bits BinOp.or IntKind.u32 (bits BinOp.or IntKind.u32 (↑a * 16777216) (↑b * 65536)) (↑c * 256)) ↑d = _
  rw [Ho.out.1, Ho.out.2.1, Ho.out.2.2, Hn.out, show 2 ^ 8 * ((a * 256 + b) * 256 + c) + d = ((a * 256 + b) * 256 + c) * 256 + d by omega]
end Go.Proofs.YtdneobnnmmlebaaGreatDoor

/-
  The contracts of wal.payload and framed.
-/
namespace Go.Proofs.YtdneobnnmmlebaaGreatDoor
open Go.RowKit

/-- What a writer takes as a record. -/
def wideR (r : Rc) : Prop := 0 ≤ r.kind ∧ r.kind ≤ 4611686018427387903 ∧ 0 ≤ r.idx ∧ r.idx ≤ 4611686018427387903 ∧ 0 ≤ r.term ∧ r.term ≤ 4611686018427387903 ∧ 0 ≤ r.vote ∧ r.vote ≤ 4611686018427387903 ∧ r.data.length ≤ 131072
theorem okR.wide {r : Rc} (h : okR r) : wideR r := by unfold okR at h; unfold wideR; omega
theorem wrN_ok {n : Int} {o : List UInt8} (h0 : 0 ≤ n) (h1 : n ≤ 4611686018427387903) (ho : o.length ≤ 1000000) : wrN n (o, 0) = (o ++ encL n.toNat, 0) ∧ (o ++ encL n.toNat).length ≤ o.length + 9 := by
  have h9 : (encL n.toNat).length ≤ 9 := encL_le9 (by unfold top; omega)
  unfold wrN wrP
  rw [if_neg (by simp), if_neg (by omega), if_neg (by simp only [List.length_nil]; omega), List.append_nil, List.length_append]
  exact ⟨rfl, by omega⟩
theorem wrT_ok {s o : List UInt8} (h : s.length ≤ 131072) (ho : o.length ≤ 1000000) : wrT s (o, 0) = (o ++ encL s.length ++ s, 0) := by
  have h9 : (encL s.length).length ≤ 9 := encL_le9 (by unfold top; omega)
  unfold wrT wrP
  rw [if_neg (by simp), if_neg (by simp only; omega)]

set_option maxRecDepth 100000 in
set_option maxHeartbeats 4000000 in
theorem payload_any (r : Rc) (w : World) (hr : wideR r) : Calls Tryz.prog 51 #[recV r] w fun e w' => e = .returned (.string (bs (payL r))) ∧ Below w.heap.size w w' := by
  obtain ⟨k0, k1, i0, i1, t0, t1, v0, v1, hd⟩ := hr
  obtain ⟨p1, l1⟩ := wrN_ok (o := []) k0 k1 (by simp)
  rw [List.nil_append] at p1 l1
  obtain ⟨p2, l2⟩ := wrN_ok (o := encL r.kind.toNat) i0 i1 (by simp at l1; omega)
  obtain ⟨p3, l3⟩ := wrN_ok (o := encL r.kind.toNat ++ encL r.idx.toNat) t0 t1 (by simp at l1; omega)
  obtain ⟨p4, l4⟩ := wrN_ok (o := encL r.kind.toNat ++ encL r.idx.toNat ++ encL r.term.toNat) v0 v1 (by simp at l1; omega)
  have p5 := wrT_ok (s := r.data) (o := encL r.kind.toNat ++ encL r.idx.toNat ++ encL r.term.toNat ++ encL r.vote.toNat) hd (by simp at l1; omega)
  have he : encL r.kind.toNat ++ encL r.idx.toNat ++ encL r.term.toNat ++ encL r.vote.toNat ++ encL r.data.length ++ r.data = payL r := by
    unfold payL; simp only [List.append_assoc]
  rw [he] at p5
  have hbl : bl (bs r.data) = r.data := bl_bs _
  have hbz : (bs r.data).size ≤ 281474976710656 := by rw [bs_size]; omega
  rw [← hbl] at p5
  unfold recV
  obtain ⟨wb, hwb⟩ : ∃ wb, wb = (w.alloc (.cells #[.int .i64 r.kind, .int .i64 r.idx, .int .i64 r.term, .int .i64 r.vote, .string (bs r.data)] 28)).alloc (.cells #[.slice none 0 0, .int .i64 0] 111) := ⟨_, rfl⟩
  have W0 : Hid (WrM wb (w.heap.size + 1) ([], 0)) := Lib.hid (by
    have := WrM.zero (w.alloc (.cells #[.int .i64 r.kind, .int .i64 r.idx, .int .i64 r.term, .int .i64 r.vote, .string (bs r.data)] 28))
    rw [← hwb] at this
    simpa using this)
  have B0 : Hid (Below w.heap.size w wb) := Lib.hid (by rw [hwb]; exact ((Below.refl _ _).alloc (Nat.le_refl _) _).alloc (by simp) _)
  have c0 : wb.cell? ⟨w.heap.size, 0, none⟩ = some (.int .i64 r.kind) := by rw [hwb]; simp
  have c1 : wb.cell? ⟨w.heap.size, 1, none⟩ = some (.int .i64 r.idx) := by rw [hwb]; simp
  have c2 : wb.cell? ⟨w.heap.size, 2, none⟩ = some (.int .i64 r.term) := by rw [hwb]; simp
  have c3 : wb.cell? ⟨w.heap.size, 3, none⟩ = some (.int .i64 r.vote) := by rw [hwb]; simp
  have c4 : wb.cell? ⟨w.heap.size, 4, none⟩ = some (.string (bs r.data)) := by rw [hwb]; simp
  have Hp := Lib.hid (And.intro p1 (And.intro p2 (And.intro p3 (And.intro p4 p5))))
  have Hb := Lib.hid (And.intro k0 (And.intro k1 (And.intro i0 (And.intro i1 (And.intro t0 (And.intro t1 (And.intro v0 v1)))))))
  have Hz := Lib.hid hbz
  have Hw := Lib.hid hwb
  have Hc := Lib.hid (And.intro c0 (And.intro c1 (And.intro c2 (And.intro c3 c4))))
  clear p1 p2 p3 p4 p5 l1 l2 l3 l4 he hbl hbz hwb c0 c1 c2 c3 c4 k0 k1 i0 i1 t0 t1 v0 v1 hd
  generalize payL r = pay at *
  generalize encL r.kind.toNat ++ encL r.idx.toNat ++ encL r.term.toNat ++ encL r.vote.toNat = o4 at *
  generalize encL r.kind.toNat ++ encL r.idx.toNat ++ encL r.term.toNat = o3 at *
  generalize encL r.kind.toNat ++ encL r.idx.toNat = o2 at *
  generalize encL r.kind.toNat = o1 at *
  obtain ⟨a, b, c, d, s⟩ := r
  simp only at *
  generalize bs s = t at *
  go_enter Tryz.func51, Tryz.ntmps51
  have S0 := Lib.hid (wnum_any a _ wb _ W0.out ⟨by have := Hb.out; omega, by have := Hb.out; omega⟩)
  rw [Hp.out.1] at S0
  go_wp2_with fail
  rw [← Hw.out]
  refine S0.out.mono ?_
  rintro e w1 ⟨rfl, hw0, hb0⟩
  have W1 := Lib.hid hw0
  have D1 : Hid (Below (w.heap.size + 1) wb w1) := Lib.hid (hb0)
  clear hw0 hb0 S0
  have S1 := Lib.hid (wnum_any b _ w1 _ W1.out ⟨by have := Hb.out; omega, by have := Hb.out; omega⟩)
  rw [Hp.out.2.1] at S1
  have d1 : w1.cell? ⟨w.heap.size, 1, none⟩ = _ := (D1.out.cell (p := ⟨w.heap.size, 1, none⟩) (Nat.lt_succ_self _)).trans Hc.out.2.1
  go_wp2_with fail
  refine S1.out.mono ?_
  rintro e w2 ⟨rfl, hw1, hb1⟩
  have W2 := Lib.hid hw1
  have D2 : Hid (Below (w.heap.size + 1) wb w2) := Lib.hid (D1.out.trans hb1)
  clear hw1 hb1 S1 d1
  have S2 := Lib.hid (wnum_any c _ w2 _ W2.out ⟨by have := Hb.out; omega, by have := Hb.out; omega⟩)
  rw [Hp.out.2.2.1] at S2
  have d2 : w2.cell? ⟨w.heap.size, 2, none⟩ = _ := (D2.out.cell (p := ⟨w.heap.size, 2, none⟩) (Nat.lt_succ_self _)).trans Hc.out.2.2.1
  go_wp2_with fail
  refine S2.out.mono ?_
  rintro e w3 ⟨rfl, hw2, hb2⟩
  have W3 := Lib.hid hw2
  have D3 : Hid (Below (w.heap.size + 1) wb w3) := Lib.hid (D2.out.trans hb2)
  clear hw2 hb2 S2 d2
  have S3 := Lib.hid (wnum_any d _ w3 _ W3.out ⟨by have := Hb.out; omega, by have := Hb.out; omega⟩)
  rw [Hp.out.2.2.2.1] at S3
  have d3 : w3.cell? ⟨w.heap.size, 3, none⟩ = _ := (D3.out.cell (p := ⟨w.heap.size, 3, none⟩) (Nat.lt_succ_self _)).trans Hc.out.2.2.2.1
  go_wp2_with fail
  refine S3.out.mono ?_
  rintro e w4 ⟨rfl, hw3, hb3⟩
  have W4 := Lib.hid hw3
  have D4 : Hid (Below (w.heap.size + 1) wb w4) := Lib.hid (D3.out.trans hb3)
  clear hw3 hb3 S3 d3
  have S4 := Lib.hid (wtext_any t _ w4 _ W4.out Hz.out)
  rw [Hp.out.2.2.2.2] at S4
  have d4 : w4.cell? ⟨w.heap.size, 4, none⟩ = _ := (D4.out.cell (p := ⟨w.heap.size, 4, none⟩) (Nat.lt_succ_self _)).trans Hc.out.2.2.2.2
  go_wp2_with fail
  refine S4.out.mono ?_
  rintro e w5 ⟨rfl, hw4, hb4⟩
  have W5 := Lib.hid hw4
  have D5 : Hid (Below (w.heap.size + 1) wb w5) := Lib.hid (D4.out.trans hb4)
  clear hw4 hb4 S4 d4
  have S5 := Lib.hid (wbytes_any _ w5 _ W5.out)
  go_wp2_with fail
  refine S5.out.mono ?_
  rintro e w6 ⟨rfl, _, hb6⟩
  have B6 : Hid (Below w.heap.size w w6) := Lib.hid ((B0.out.trans (below_mono' D5.out (Nat.le_succ _))).trans (below_mono' hb6 (Nat.le_trans B0.out.size D5.out.size)))
  clear hb6 S5
  go_wp2
  go_ret
  exact ⟨rfl, B6.out⟩
end Go.Proofs.YtdneobnnmmlebaaGreatDoor

/-
  The contract of wal.framed.
-/
namespace Go.Proofs.YtdneobnnmmlebaaGreatDoor
open Go.RowKit

theorem wide_pay {r : Rc} (h : wideR r) : (payL r).length ≤ 131117 := by
  have h9 : ∀ n : Int, n ≤ 4611686018427387903 → (encL n.toNat).length ≤ 9 := fun n hn => encL_le9 (by unfold top; omega)
  obtain ⟨_, a, _, b, _, c, _, d, e⟩ := h
  have h5 : (encL r.data.length).length ≤ 9 := encL_le9 (by unfold top; omega)
  have := h9 _ a; have := h9 _ b; have := h9 _ c; have := h9 _ d
  unfold payL
  simp only [List.length_append]
  omega
def bytesI (l : List UInt8) : List Int := l.map fun b => (b.toNat : Int)
theorem row8_bytes (w : World) (s : ByteArray) (h : s.size ≤ 1000000000) : Row8 (Lib.bytesWorld w 5 s) (some ⟨w.heap.size, 0, none⟩) (bytesI (bl s)) := by
  refine ⟨fun c hc => ?_, ?_, .inr ⟨_, _, rfl, fun i hi => ?_⟩⟩
  · obtain ⟨b, _, rfl⟩ := List.mem_map.1 hc
    have := b.toNat_lt
    omega
  · unfold bytesI; rw [List.length_map, bl_length]; omega
  · unfold bytesI at *
    rw [List.length_map, bl_length] at hi
    rw [Nat.zero_add, Lib.bytesWorld_cell w 5 s i hi, bl_eq, List.getD_eq_getElem?_getD, List.getD_eq_getElem?_getD, List.getElem?_map]
    cases s.data.toList[i]? <;> rfl
theorem crc_int (l : List UInt8) : moreI 0 (bytesI l) = ((crcN l : Nat) : Int) := by
  have := (moreI_bd 0 (bytesI l)).1
  unfold crcN
  show moreI 0 (bytesI l) = ((moreI 0 (bytesI l)).toNat : Int)
  omega
theorem crc_lt (l : List UInt8) : crcN l < 4294967296 := by
  have h1 := crc_int l
  have h2 := (moreI_bd 0 (bytesI l)).2
  omega
theorem of_bytes (s : ByteArray) (w : World) (cap : Nat) (h : s.size ≤ 1000000000) : Calls Tryz.prog 53 #[.slice (some ⟨w.heap.size, 0, none⟩) s.size cap] (Lib.bytesWorld w 5 s) fun e w' => e = .returned (.int .u32 (crcN (bl s) : Nat)) ∧ w' = Lib.bytesWorld w 5 s :=
  (of_any _ s.size cap (bytesI (bl s)) _ (by unfold bytesI; rw [List.length_map, bl_length]) (row8_bytes w s h)).mono fun _ _ ⟨he, hw⟩ => ⟨by rw [he, crc_int], hw.symm⟩
theorem frames_take {l : List Rc} {i : Nat} {r : Rc} (h : l[i]? = some r) : framesL (l.take (i + 1)) = framesL (l.take i) ++ frameL r := by
  have hi := (List.getElem?_eq_some_iff.1 h).1
  have hr := (List.getElem?_eq_some_iff.1 h).2
  rw [List.take_succ_eq_append_getElem hi, framesL_append, hr, framesL_cons, framesL_nil, List.append_nil]
theorem frames_take_le (l : List Rc) (i : Nat) : (framesL (l.take i)).length ≤ (framesL l).length := by
  conv => rhs; rw [← List.take_append_drop i l, framesL_append, List.length_append]
  omega

set_option maxRecDepth 100000 in
set_option maxHeartbeats 4000000 in
theorem framed_any (l : List Rc) (A : Option Addr) (n cap : Nat) (w : World) (hlen : l.length = n) (hrow : RowAt w A (rcC l)) (hok : ∀ r ∈ l, wideR r) (hu : (framesL l).length ≤ 1000000) :
    Calls Tryz.prog 32 #[.slice A n cap] w fun e w' => e = .returned (.string (bs (framesL l))) ∧ Below w.heap.size w w' := by
  obtain ⟨i0, hi0, hz0, hz1, hz2⟩ := info_parts info5
  have hn : n ≤ 9223372036854775807 := by have := framesL_len_le l; omega
  have Hrow := Lib.hid hrow
  have Hlen := Lib.hid hlen
  have Hok := Lib.hid hok
  have Hu := Lib.hid hu
  have H0 : Hid (w.ownsRow w.heap.size 5 1 (.slice none 0 0) 0 (byC (framesL (l.take 0)))) := Lib.hid (by rw [List.take_zero, framesL_nil, byC_eq]; exact World.ownsRow_nil _ _ _ _)
  clear hrow hlen hok hu
  go_enter Tryz.func32, Tryz.ntmps32
  go_wp2
  go_loopw [3, 9] (fun bv iv wr => ∃ (i : Nat) (p : Option Addr) (m c : Nat), i ≤ n ∧ iv = .int .i64 i ∧ bv = .slice p m c ∧ m = (framesL (l.take i)).length ∧ wr.ownsRow w.heap.size 5 1 (.slice p m c) m (byC (framesL (l.take i))) ∧ Below w.heap.size w wr) (fun _ iv _ => n - (intOf iv).toNat)
  case atStart => exact ⟨0, none, 0, 0, Nat.zero_le _, rfl, rfl, rfl, H0.out, Below.refl _ _⟩
  case round =>
    clear H0
    obtain ⟨i, p, m, c, hi, rfl, rfl, hm, hown, hb⟩ := hrel
    have Hown := Lib.hid hown
    have Hb := Lib.hid hb
    have hm2 : m ≤ 1000000 := by have := frames_take_le l i; have := Hu.out; omega
    have Hm := Lib.hid hm
    clear hown hm
    by_cases hlt : i < n
    · have hltz : (i : Int) < (n : Int) := by omega
      obtain ⟨r, hr⟩ : ∃ r, l[i]? = some r := ⟨_, List.getElem?_eq_getElem (by rw [Hlen.out]; exact hlt)⟩
      obtain ⟨b, off, rfl, hbl, c0, c1, c2, c3, c4⟩ := row_rec Hrow.out hr
      have d0 := (hb.cell (p := ⟨b, off + i * 5, none⟩) hbl).trans c0
      have d1 := (hb.cell (p := ⟨b, off + i * 5 + 1, none⟩) hbl).trans c1
      have d2 := (hb.cell (p := ⟨b, off + i * 5 + 2, none⟩) hbl).trans c2
      have d3 := (hb.cell (p := ⟨b, off + i * 5 + 3, none⟩) hbl).trans c3
      have d4 := (hb.cell (p := ⟨b, off + i * 5 + 4, none⟩) hbl).trans c4
      have hw0 := Hok.out r (List.mem_of_getElem? hr)
      have HP := Lib.hid (fun (W : World) => payload_any r W hw0)
      unfold recV at HP
      have Htk := Lib.hid (frames_take hr)
      have hpl := wide_pay hw0
      have Hle : Hid (m + (8 + (payL r).length) ≤ 1000000) := Lib.hid (by
        have h1 := frames_take_le l (i + 1)
        rw [frames_take hr, List.length_append, frame_len] at h1
        have := Hu.out
        have := Hm.out
        omega)
      have Hfr : Hid (byC (frameL r) = byC (be4 (payL r).length) ++ (byC (be4 (crcN (payL r))) ++ byC (payL r))) := Lib.hid (by unfold frameL; rw [byC_append, byC_append])
      have Hcl := Lib.hid (crc_lt (payL r))
      have hsz : (bs (payL r)).size = (payL r).length := bs_size _
      have Hbl := Lib.hid (bl_bs (payL r))
      have Hsc := Lib.hid (strCells_eq (bs (payL r)))
      rw [bl_bs] at Hsc
      have Hfl : Hid ((frameL r).length = 8 + (payL r).length) := Lib.hid (frame_len r)
      clear c0 c1 c2 c3 c4 hr hb hbl hw0
      obtain ⟨q, hq⟩ : ∃ q, q = (payL r).length := ⟨_, rfl⟩
      obtain ⟨cr, hcr⟩ : ∃ cr, cr = crcN (payL r) := ⟨_, rfl⟩
      rw [← hq] at hpl Hle hsz Hfr Hfl
      rw [← hcr] at Hfr Hcl
      have Hcr := Lib.hid hcr
      clear hq hcr
      generalize payL r = pay at *
      generalize frameL r = fr at *
      generalize hP : bs pay = P at *
      clear hP
      have hcl := Hcl.out
      go_wp2_with fail
      refine (HP.out _).mono ?_
      rintro e w1 ⟨rfl, hb1⟩
      have B1 : Hid (Below w.heap.size w w1) := Lib.hid ((Hb.out.alloc Hb.out.size _).trans (below_mono' hb1 (Nat.le_trans Hb.out.size (by simp))))
      have O1 := Lib.hid (own_below (own_below Hown.out ((Below.refl _ _).alloc (Nat.le_refl _) _)) hb1)
      have S2 := Lib.hid (appendNumber_any q w.heap.size p m c _ w1 (by omega) B1.out.size O1.out (by omega))
      clear hb1 Hown d0 d1 d2 d3 d4 HP
      go_wp2_with fail
      refine S2.out.mono ?_
      rintro e w2 ⟨g2, cap2, rfl, own2, b2⟩
      obtain ⟨w3, hw3⟩ : ∃ w3, w3 = Lib.bytesWorld w2 5 P := ⟨_, rfl⟩
      obtain ⟨cp, hcp⟩ : ∃ cp, cp = grownCap w2 P.size 0 5 := ⟨_, rfl⟩
      have hconv := Lib.run_convert_string_bytes (P := Tryz.prog) w2 9 50 5 P Tryz.underlying9 Tryz.underlying50 Tryz.underlying5
      have S3 := of_bytes P w2 cp (by omega)
      have hb3 : Below w2.heap.size w2 w3 := by rw [hw3]; exact ⟨rfl, rfl, rfl, by rw [Lib.bytesWorld_size]; omega, fun j hj => Lib.bytesWorld_at_old _ _ _ j hj⟩
      rw [← hw3, ← hcp, hsz] at hconv
      rw [← hw3, hsz, Hbl.out, ← Hcr.out] at S3
      have B2 := Lib.hid (B1.out.trans b2)
      have B3 := Lib.hid (B2.out.trans (below_mono' hb3 B2.out.size))
      have O3 := Lib.hid (own_below own2 hb3)
      have H3 := Lib.hid S3
      have S4 := Lib.hid (appendNumber_any cr w.heap.size _ (m + 4) cap2 _ w3 hcl B3.out.size O3.out (by omega))
      clear hw3 hcp own2 b2 hb3 S3 S2 O1
      go_wp2_with fail
      refine H3.out.mono ?_
      rintro e w4 ⟨rfl, rfl⟩
      clear H3 hconv
      go_wp2_with fail
      refine S4.out.mono ?_
      rintro e w5 ⟨g5, cap5, rfl, own5, b5⟩
      have B5 := Lib.hid (B3.out.trans b5)
      have O5 := Lib.hid own5
      have Hm3 : Hid (m + 4 + 4 + P.size ≤ maxLen) := Lib.hid (by unfold maxLen; have := Hle.out; omega)
      have Hm4 : Hid (m + 4 + 4 + P.size ≤ 140737488355328) := Lib.hid (by have := Hle.out; omega)
      clear own5 b5 S4 O3
      go_wp2_with (at_builtin; go_loud (refine Lib.wpList_append_own_string _ rfl (.tmp 25) (.tmp 26) 50 9 rfl w.heap.size 5 i0 Tryz.underlying50 Tryz.underlying9 hi0 hz0 hz1 hz2 (.slice (some ⟨g5, 0, none⟩) (m + 4 + 4) cap5) (m + 4 + 4) _ rfl O5.out P rfl Hm3.out Hm4.out B5.out.size ?_); intro v6 w6 hown6 hgrow6 hiff6; obtain ⟨g6, cap6, rfl, hg6a, hg6b⟩ := hown6.form (by omega))
      have Hown6 : Hid (w6.ownsRow w.heap.size 5 1 (.slice (some ⟨g6, 0, none⟩) (m + 4 + 4 + q) cap6) (m + 4 + 4 + q) (byC (framesL (l.take (i + 1))))) := Lib.hid (by
        rw [Htk.out, byC_append, Hfr.out, ← Hsc.out, ← List.append_assoc, ← List.append_assoc]
        rw [hsz] at hown6
        exact hown6)
      have B6 : Hid (Below w.heap.size w w6) := Lib.hid (B5.out.grown hgrow6 B5.out.size (fun k hk => (World.ownsRow.lt O5.out k hk).1))
      have Hm6 : Hid (m + 4 + 4 + q = (framesL (l.take (i + 1))).length) := Lib.hid (by rw [Htk.out, List.length_append, Hfl.out, ← Hm.out]; omega)
      clear hown6 hgrow6 hiff6 O5
      go_roundw
      case rel => exact ⟨i + 1, some ⟨g6, 0, none⟩, m + 4 + 4 + q, cap6, by omega, by go_num, by first | rfl | rw [hsz], Hm6.out, Hown6.out, B6.out⟩
      case measure => simp [intOf]; omega
    · have hltz : ¬ (i : Int) < (n : Int) := by omega
      have Hall : Hid (framesL (l.take i) = framesL l) := Lib.hid (by rw [List.take_of_length_le (by rw [Hlen.out]; omega)])
      have hcv : (convert 50 9 (.slice p m c)).run Tryz.prog wr = .ok (.string (bs (framesL l))) wr := conv_owned (v := .slice p m c) (l := framesL l) (by rw [← Hall.out, ← Hm.out]; exact Hown.out)
      clear hb
      go_wp2
      go_ret
      exact ⟨rfl, Hb.out⟩
end Go.Proofs.YtdneobnnmmlebaaGreatDoor

/-
  What a frame at the beginning of bytes tells (pure).
-/
namespace Go.Proofs.YtdneobnnmmlebaaGreatDoor
open Go.RowKit

theorem wpay_inj {r q : Rc} (hr : wideR r) (hq : wideR q) (h : payL r = payL q) : r = q := by
  unfold wideR at hr hq
  unfold payL at h
  obtain ⟨e1, h⟩ := enc_cancel (by unfold top; omega) (by unfold top; omega) h
  obtain ⟨e2, h⟩ := enc_cancel (by unfold top; omega) (by unfold top; omega) h
  obtain ⟨e3, h⟩ := enc_cancel (by unfold top; omega) (by unfold top; omega) h
  obtain ⟨e4, h⟩ := enc_cancel (by unfold top; omega) (by unfold top; omega) h
  obtain ⟨_, h⟩ := enc_cancel (by unfold top; omega) (by unfold top; omega) h
  obtain ⟨a, b, c, d, e⟩ := r
  obtain ⟨a', b', c', d', e'⟩ := q
  simp only at *
  rw [show a = a' by omega, show b = b' by omega, show c = c' by omega, show d = d' by omega, h]
/-- The record whose frame stands first, or that there is none. -/
def FrOf (s : List UInt8) : Option Rc → Prop
  | some r => wideR r ∧ frameL r <+: s
  | none => ∀ r, wideR r → ¬ frameL r <+: s
def zeroR : Rc := ⟨0, 0, 0, 0, []⟩
def unfR (o : Option Rc) : Rc := o.getD zeroR
def unfN : Option Rc → Nat
  | some r => (frameL r).length
  | none => 0
theorem numBe_be {n : Nat} (h : n < 4294967296) (t : List UInt8) : numBe (be4 n ++ t) = n := by
  unfold numBe be4
  have e : ∀ m : Nat, (UInt8.ofNat (m % 256)).toNat = m % 256 := fun m => by rw [UInt8.toNat_ofNat']; omega
  simp only [List.cons_append, List.nil_append, List.getD_cons_zero, List.getD_cons_succ, e]
  omega
theorem be_numBe {s : List UInt8} (h : 4 ≤ s.length) : be4 (numBe s) = s.take 4 ∧ numBe s < 4294967296 := by
  match s, h with
  | a :: b :: c :: d :: t, _ =>
    have := a.toNat_lt; have := b.toNat_lt; have := c.toNat_lt; have := d.toNat_lt
    unfold numBe be4
    simp only [List.getD_cons_zero, List.getD_cons_succ, List.take_succ_cons, List.take_zero]
    refine ⟨?_, by omega⟩
    congr 1
    · apply UInt8.toNat_inj.1; rw [UInt8.toNat_ofNat']; omega
    · congr 1
      · apply UInt8.toNat_inj.1; rw [UInt8.toNat_ofNat']; omega
      · congr 1
        · apply UInt8.toNat_inj.1; rw [UInt8.toNat_ofNat']; omega
        · congr 1
          apply UInt8.toNat_inj.1; rw [UInt8.toNat_ofNat']; omega
/-- A frame stands first: what its parts are. -/
theorem frame_parts {r : Rc} {s : List UInt8} (hr : wideR r) (h : frameL r <+: s) : 8 ≤ s.length ∧ numBe s = (payL r).length ∧ (payL r).length ≤ s.length - 8 ∧ (s.drop 8).take (numBe s) = payL r ∧ numBe (s.drop 4) = crcN (payL r) := by
  obtain ⟨t, rfl⟩ := h
  have hp := wide_pay hr
  have e1 : numBe (frameL r ++ t) = (payL r).length := by unfold frameL; rw [List.append_assoc]; exact numBe_be (by omega) _
  have hl : (frameL r ++ t).length = 8 + (payL r).length + t.length := by rw [List.length_append, frame_len]
  refine ⟨by omega, e1, by omega, ?_, ?_⟩
  · rw [e1]
    unfold frameL
    rw [List.append_assoc, List.append_assoc, ← List.append_assoc (be4 _) (be4 _), List.drop_left' (by rfl), List.take_left' rfl]
  · unfold frameL
    rw [List.append_assoc, List.append_assoc, List.drop_left' (by rfl)]
    exact numBe_be (crc_lt _) _
theorem parts_frame {r : Rc} {s : List UInt8} (h8 : 8 ≤ s.length) (hn : numBe s ≤ s.length - 8) (hc : numBe (s.drop 4) = crcN ((s.drop 8).take (numBe s))) (hp : (s.drop 8).take (numBe s) = payL r) : frameL r <+: s := by
  have e1 := (be_numBe (s := s) (by omega)).1
  have e2 := (be_numBe (s := s.drop 4) (by rw [List.length_drop]; omega)).1
  have hl : (payL r).length = numBe s := by rw [← hp, List.length_take, List.length_drop]; omega
  refine ⟨(s.drop 8).drop (numBe s), ?_⟩
  unfold frameL
  rw [hl, e1, ← hp, ← hc, e2, List.append_assoc, List.append_assoc, List.take_append_drop]
  have : s.drop 8 = (s.drop 4).drop 4 := by rw [List.drop_drop]
  rw [this, List.take_append_drop, List.take_append_drop]
/-- What five reads make of a payload. -/
structure Rd5 where
  q1 : Nat × List UInt8 × Bool
  q2 : Nat × List UInt8 × Bool
  q3 : Nat × List UInt8 × Bool
  q4 : Nat × List UInt8 × Bool
  q5 : List UInt8 × List UInt8 × Bool
abbrev mostN : Int := 4611686018427387903
def rd5 (p : List UInt8) : Rd5 :=
  let q1 := rdN mostN p false
  let q2 := rdN mostN q1.2.1 q1.2.2
  let q3 := rdN mostN q2.2.1 q2.2.2
  let q4 := rdN mostN q3.2.1 q3.2.2
  ⟨q1, q2, q3, q4, rdT 131072 q4.2.1 q4.2.2⟩
def rdR (d : Rd5) : Rc := ⟨d.q1.1, d.q2.1, d.q3.1, d.q4.1, d.q5.1⟩
theorem rdN_enc {n : Nat} (h : n ≤ top) (t : List UInt8) : rdN mostN (encL n ++ t) false = (n, t, false) := by
  rw [rdN_some (decL_enc n h t) (by unfold top at h; unfold mostN; omega), List.drop_left]
theorem rd5_pay {r : Rc} (h : wideR r) : (rd5 (payL r)).q5.2 = ([], false) ∧ rdR (rd5 (payL r)) = r := by
  obtain ⟨k0, k1, i0, i1, t0, t1, v0, v1, hd⟩ := h
  have h5 : rdN 131072 (encL r.data.length ++ r.data) false = (r.data.length, r.data, false) := by
    rw [rdN_some (decL_enc r.data.length (by unfold top; omega) r.data) (by omega), List.drop_left]
  have e : rdT 131072 (encL r.data.length ++ r.data) false = (r.data, [], false) := by
    unfold rdT
    rw [h5]
    simp
  unfold rd5 payL rdR
  simp only [rdN_enc (n := r.kind.toNat) (by unfold top; omega), rdN_enc (n := r.idx.toNat) (by unfold top; omega), rdN_enc (n := r.term.toNat) (by unfold top; omega), rdN_enc (n := r.vote.toNat) (by unfold top; omega), e]
  refine ⟨trivial, ?_⟩
  obtain ⟨a, b, c, d, s⟩ := r
  simp only at *
  rw [show ((a.toNat : Nat) : Int) = a by omega, show ((b.toNat : Nat) : Int) = b by omega, show ((c.toNat : Nat) : Int) = c by omega, show ((d.toNat : Nat) : Int) = d by omega]
theorem rdN_inv {m : Int} {l : List UInt8} {b : Bool} (h : (rdN m l b).2.2 = false) : b = false ∧ (rdN m l b).1 ≤ top ∧ ((rdN m l b).1 : Int) ≤ m ∧ l = encL (rdN m l b).1 ++ (rdN m l b).2.1 := by
  cases b with
  | true => rw [rdN_bad] at h; cases h
  | false =>
    rcases rdN_cases m l with e | ⟨n, k, hd, hm, e⟩
    · rw [e] at h; cases h
    · rw [e]
      obtain ⟨h1, _, h3, _⟩ := decL_sound hd
      exact ⟨rfl, h1, hm, by show l = encL n ++ l.drop k; rw [← h3, List.take_append_drop]⟩
theorem pay_rd5 {p : List UInt8} (h : (rd5 p).q5.2 = ([], false)) : wideR (rdR (rd5 p)) ∧ payL (rdR (rd5 p)) = p := by
  obtain ⟨q1, e1⟩ : ∃ q, q = rdN mostN p false := ⟨_, rfl⟩
  obtain ⟨q2, e2⟩ : ∃ q, q = rdN mostN q1.2.1 q1.2.2 := ⟨_, rfl⟩
  obtain ⟨q3, e3⟩ : ∃ q, q = rdN mostN q2.2.1 q2.2.2 := ⟨_, rfl⟩
  obtain ⟨q4, e4⟩ : ∃ q, q = rdN mostN q3.2.1 q3.2.2 := ⟨_, rfl⟩
  obtain ⟨q5, e5⟩ : ∃ q, q = rdT 131072 q4.2.1 q4.2.2 := ⟨_, rfl⟩
  have e : rd5 p = ⟨q1, q2, q3, q4, q5⟩ := by unfold rd5; simp only [← e1, ← e2, ← e3, ← e4, ← e5]
  rw [e] at h ⊢
  simp only at h
  have e5' := e5
  unfold rdT at e5
  by_cases hc : (rdN 131072 q4.2.1 q4.2.2).2.2 = true ∨ (rdN 131072 q4.2.1 q4.2.2).2.1.length < (rdN 131072 q4.2.1 q4.2.2).1
  · rw [if_pos hc] at e5; rw [e5] at h; simp at h
  · rw [if_neg hc] at e5
    have hb : (rdN 131072 q4.2.1 q4.2.2).2.2 = false := by
      cases hx : (rdN 131072 q4.2.1 q4.2.2).2.2 with
      | false => rfl
      | true => exact absurd (.inl hx) hc
    have hle : (rdN 131072 q4.2.1 q4.2.2).1 ≤ (rdN 131072 q4.2.1 q4.2.2).2.1.length := by
      rcases Nat.lt_or_ge (rdN 131072 q4.2.1 q4.2.2).2.1.length (rdN 131072 q4.2.1 q4.2.2).1 with h1 | h1
      · exact absurd (.inr h1) hc
      · exact h1
    obtain ⟨b4, n5, m5, p5⟩ := rdN_inv hb
    obtain ⟨b3, n4, m4, p4⟩ := rdN_inv (e4 ▸ b4)
    obtain ⟨b2, n3, m3, p3⟩ := rdN_inv (e3 ▸ b3)
    obtain ⟨b1, n2, m2, p2⟩ := rdN_inv (e2 ▸ b2)
    obtain ⟨_, n1, m1, p1⟩ := rdN_inv (e1 ▸ b1)
    rw [← e4] at n4 m4 p4
    rw [← e3] at n3 m3 p3
    rw [← e2] at n2 m2 p2
    rw [← e1] at n1 m1 p1
    generalize rdN 131072 q4.2.1 q4.2.2 = x at *
    have hd : q5.1 = x.2.1 := by
      have h2 : x.2.1.drop x.1 = [] := by rw [e5] at h; exact (Prod.mk.inj h).1
      rw [e5]
      show x.2.1.take x.1 = x.2.1
      conv => rhs; rw [← List.take_append_drop x.1 x.2.1, h2, List.append_nil]
    have hx : x.2.1.length = x.1 := by
      have h2 : x.2.1.drop x.1 = [] := by rw [e5] at h; exact (Prod.mk.inj h).1
      have := congrArg List.length h2
      rw [List.length_drop] at this
      simp only [List.length_nil] at this
      omega
    unfold rdR wideR payL
    simp only [hd, hx]
    unfold mostN at *
    refine ⟨⟨by omega, m1, by omega, m2, by omega, m3, by omega, m4, by omega⟩, ?_⟩
    simp only [Int.toNat_natCast]
    rw [p1, p2, p3, p4, p5]
end Go.Proofs.YtdneobnnmmlebaaGreatDoor
