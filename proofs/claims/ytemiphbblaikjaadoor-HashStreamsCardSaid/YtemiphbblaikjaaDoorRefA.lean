/-
  Words on the message, the rows and the rounds that the walk of exchequerref02.Sum needs.
-/
import Derived.Test.YtemiphbblaikjaaDoorNum
import Derived.IntWalk
namespace Go.Proofs.YtemiphbblaikjaaDoor
open Go.RowKit

/-- The message so far, so many noughts behind it. -/
def msgL (c : List UInt8) (z : Nat) : List UInt8 := c ++ [128] ++ List.replicate z 0
theorem msgL_length (c : List UInt8) (z : Nat) : (msgL c z).length = c.length + 1 + z := by simp [msgL]; omega
theorem msgL_succ (c : List UInt8) (z : Nat) : msgL c z ++ [0] = msgL c (z + 1) := by
  unfold msgL; rw [List.append_assoc, ← List.replicate_succ']
theorem msgL_end (c : List UInt8) (z : Nat) (h : z = zerosN c.length) : msgL c z ++ numL (8 * c.length) 8 = padded c := by
  subst h; unfold msgL padded; simp
theorem below_bytes {B : Nat} {w0 w : World} (h : Below B w0 w) (hB : B ≤ w.heap.size) (e : TypeId) (s : ByteArray) : Below B w0 (Lib.bytesWorld w e s) :=
  h.trans ⟨rfl, rfl, rfl, by rw [Lib.bytesWorld_size]; omega, fun k hk => Lib.bytesWorld_at_old w e s k (by omega)⟩
theorem news_of {w : World} {g : Nat} {t : TypeId} {l : List UInt8} {cs : List Value} (h : Holds w g t cs) (hc : cs = byC l) : ∀ j u, (byC l)[j]? = some u → w.cell? ((⟨g, 0, none⟩ : Addr).add j) = some u := fun j u hu => by
  rw [add_off]; exact Holds.cell h (by rw [hc]; exact hu)

theorem own_cells {w : World} {base g len c : Nat} {l : List UInt8} (h : w.ownsRow base 5 1 (.slice (some ⟨g, 0, none⟩) len c) len (byC l)) : ∀ j u, (byC l)[j]? = some u → w.cell? ((⟨g, 0, none⟩ : Addr).add j) = some u := h.cells (g := g) rfl
theorem number_at (v k : Int) (n size : Nat) (w : World) (hv : v = n) (hk : k = size) (h0 : 0 < size) (h8 : size ≤ 8) (hn : n < 18446744073709551616) :
    Calls Tryd.prog 24 #[.int .u64 v, .int .i64 k] w fun e w' => e = .returned (.slice (some ⟨w.heap.size, 0, none⟩) size size) ∧ w'.ownsRow w.heap.size 5 1 (.slice (some ⟨w.heap.size, 0, none⟩) size size) size (byC (numL n size)) ∧ Below w.heap.size w w' := by
  subst hv hk; exact number_any n size w h0 h8 hn
theorem startC : woC start.toL = [Value.int .u32 1779033703, Value.int .u32 3144134277, Value.int .u32 1013904242, Value.int .u32 2773480762, Value.int .u32 1359893119, Value.int .u32 2600822924, Value.int .u32 528734635, Value.int .u32 1541459225] := by
  rw [woC_eq]
  simp only [St.toL, start, List.map_cons, List.map_nil, wI_eq]
  rfl
/-- What stands while the blocks are taken. -/
def RefAt (w0 : World) (g cap : Nat) (M : List UInt8) (gh gk : Nat) (h : St) (wr : World) : Prop :=
  OwnM wr g cap M ∧ Holds wr gh 41 (woC h.toL) ∧ Holds wr gk 41 (woC kks) ∧ Below w0.heap.size w0 wr
theorem blk_get (M : List UInt8) (a i : Nat) (h : i < 64) : M.getD (a + i) 0 = ((M.drop a).take 64).getD i 0 := by
  rw [List.getD_eq_getElem?_getD, List.getD_eq_getElem?_getD, List.getElem?_take_of_lt h, List.getElem?_drop]
/-- The first i bytes of a word. -/
def partN (B : List UInt8) (k : Nat) : Nat → Nat
  | 0 => 0
  | i + 1 => partN B k i * 256 + (B.getD (4 * k + i) 0).toNat
theorem partN_lt (B : List UInt8) (k i : Nat) (h : i < 4) : partN B k i < 16777216 := by
  have h' : ∀ i, partN B k i < 256 ^ i := by
    intro i
    induction i with
    | zero => simp [partN]
    | succ i ih =>
      have := (B.getD (4 * k + i) 0).toNat_lt
      rw [partN, Nat.pow_succ]; omega
  have := h' i
  have : 256 ^ i ≤ 256 ^ 3 := Nat.pow_le_pow_right (by omega) (by omega)
  omega
theorem partN_four (B : List UInt8) (k : Nat) : ((partN B k 4 : Nat) : Int) = wI (wordAt B k) := by
  have h0 := (B.getD (4 * k) 0).toNat_lt
  have h1 := (B.getD (4 * k + 1) 0).toNat_lt
  have h2 := (B.getD (4 * k + 2) 0).toNat_lt
  have h3 := (B.getD (4 * k + 3) 0).toNat_lt
  unfold wordAt
  rw [wI_ofNat _ (by omega)]
  simp [partN]
theorem info41 : (Tryd.prog.info? 41).map (fun i => (i.zero, i.size, i.bytes)) = some (some (.int .u32 0), 1, 4) := by kernel_rfl
theorem own_alloc {w : World} {base : Nat} {e : TypeId} {size : Nat} {v : Value} {n : Nat} {xs : List Value} (h : w.ownsRow base e size v n xs) (o : Obj) : (w.alloc o).ownsRow base e size v n xs := by
  rcases h.2 with ⟨hv, h0⟩ | ⟨g, cap, cur, hv, hb, hh, r⟩
  · exact ⟨h.1, .inl ⟨hv, h0⟩⟩
  · exact ⟨h.1, .inr ⟨g, cap, cur, hv, hb, (Below.heap_alloc w o g (Array.getElem?_eq_some_iff.1 hh).1).trans hh, r⟩⟩
theorem word_new (x : BitVec 32) : ∀ W : World, ∀ j u, [Value.int .u32 (wI x)][j]? = some u → (W.alloc (.cells #[.int .u32 (wI x)] 41)).cell? ((⟨W.heap.size, 0, none⟩ : Addr).add j) = some u := fun W j u hu => by
  rw [add_off]; exact Holds.cell (Holds.new W 41 _) hu
theorem word_one (x : BitVec 32) : ∀ u ∈ [Value.int .u32 (wI x)], u.oneCell' = true := by
  intro u hu
  simp at hu
  subst hu; rfl
theorem woC_one (x : BitVec 32) : woC [x] = [Value.int .u32 (wI x)] := by rw [woC_eq]; rfl
theorem own_word {w : World} {base g len c : Nat} {l : List (BitVec 32)} (h : w.ownsRow base 41 1 (.slice (some ⟨g, 0, none⟩) len c) len (woC l)) {i : Nat} (hi : i < l.length) (hl : l.length = len) :
    w.cell? ⟨g, i, none⟩ = some (.int .u32 (wI (l.getD i 0))) := by
  rw [h.cellAt i (by omega)]; exact woC_at hi
/-- The turn, as the reference writes it. -/
def rrK (x : BitVec 32) (k : Int) : BitVec 32 := rr x k.toNat
theorem turn_k (x : BitVec 32) (k : Int) (w : World) (h0 : 0 < k) (h1 : k < 32) :
    Calls Tryd.prog 26 #[.int .u32 (wI x), .int .u64 k] w fun e w' => e = .returned (.int .u32 (wI (rrK x k))) ∧ w' = w := by
  obtain ⟨n, rfl⟩ := Int.eq_ofNat_of_zero_le (Int.le_of_lt h0)
  exact (turn_any x n w (by omega) (by omega)).mono fun _ _ ⟨h, h2⟩ => ⟨h, h2.symm⟩
theorem quiet_more {P : Program} {f : FuncId} {args : Array Value} {w : World} {a n : Nat} {v : Value} (h : Calls P f args (w.drewN (a + n)) fun e w' => e = .returned v ∧ w' = w.drewN (a + n)) :
    Calls P f args (w.drewN (a + n)) fun e w' => e = .returned v ∧ ∃ m, w' = w.drewN (a + m) := h.mono fun _ _ hh => ⟨hh.1, n, hh.2⟩
theorem wo_at {w : World} {g : Nat} {t : TypeId} {L : List (BitVec 32)} (h : Holds w g t (woC L)) {i : Nat} (hi : i < L.length) : w.cell? ⟨g, i, none⟩ = some (.int .u32 (wI (L.getD i 0))) := Holds.cell h (woC_at hi)
theorem kks_get (i : Nat) (h : i < 64) : kks.getD i 0 = kk i := by
  unfold kks
  rw [List.getD_eq_getElem?_getD, List.getElem?_map, List.getElem?_range h]; rfl
theorem rnd_a (a b c d e f g h k w : BitVec 32) : (rnd ⟨a, b, c, d, e, f, g, h⟩ k w).a = tOne ⟨a, b, c, d, e, f, g, h⟩ k w + (big0 a + major a b c) := by
  show _ + big0 a + major a b c = _
  rw [BitVec.add_assoc]
/-- The row of the words while the rounds go. -/
def WAt (W2 : World) (g t cap : Nat) (l : List (BitVec 32)) (w : World) : Prop := w.ownsRow W2.heap.size 41 1 (.slice (some ⟨g, 0, none⟩) t cap) t (woC l) ∧ Below W2.heap.size W2 w
theorem wrap_add (x y : BitVec 32) : IntKind.u32.wrap (wI x + wI y) = wI (x + y) := by
  rw [← wI_add]; simp [IntKind.wrap, IntKind.bits, IntKind.signed]
/-- The mixture as the reference writes it. -/
def mixR (x0 x1 x2 x3 : BitVec 32) : BitVec 32 := (rrK x3 17 ^^^ rrK x3 19 ^^^ (x3 >>> 10)) + x2 + (rrK x1 7 ^^^ rrK x1 18 ^^^ (x1 >>> 3)) + x0
theorem mix_ref (x0 x1 x2 x3 : BitVec 32) : mixR x0 x1 x2 x3 = mixW x0 x1 x2 x3 := by
  show (small1 x3 + x2 + small0 x1 + x0 : BitVec 32) = x0 + small0 x1 + x2 + small1 x3
  ac_rfl
def lenV : Value → Nat | .slice _ n _ => n | _ => 0
end Go.Proofs.YtemiphbblaikjaaDoor
