/-
  What the laws ask of the program's own disk, as one structure; two disks side by side.
-/
import Derived.Test.YtbgfkjafablfiaaTH
namespace Go.Proofs.Ytbgfkjafablfiaa
open Go.RowKit

/-- What a call of the program's disk leaves. -/
def DRet (D : World → Addr → (Nat → Prop) → St → Prop) (x : Value) (a : Addr) (F : Nat → Prop) (s' : St) (w : World) (e : Ending) (w' : World) : Prop :=
  e = .returned x ∧ ∃ F', D w' a F' s' ∧ Only F w w' ∧ ∀ k, F' k → F k ∨ w.heap.size ≤ k
/-- Fuse, Room as the document has them. -/
def fuseS (n : Int) (s : St) : St := { s with fuse := max n (-1) }
def roomS (n : Int) (s : St) : Int × St := if 0 ≤ n ∧ n ≤ 8388608 then (0, { s with room := n }) else (1, s)
def namesL (s : St) : List (List UInt8) := if s.off = true then [] else s.files.map (·.1)
def usedS (s : St) : Nat := if s.off = true then 0 else usedL s.files
def I64 (n : Int) : Prop := -9223372036854775808 ≤ n ∧ n ≤ 9223372036854775807
/-- The program's own disk answers what the document says: D w a F s: behind a, in blocks F, lies a disk s. -/
structure GoodD where
  D : World → Addr → (Nat → Prop) → St → Prop
  foot : ∀ {w a F s}, D w a F s → ∀ k, F k → k < w.heap.size
  stay : ∀ {w w' : World} {a F s}, D w a F s → w.heap.size ≤ w'.heap.size → (∀ k, F k → w'.heap[k]? = w.heap[k]?) → D w' a F s
  rise : ∀ {w a F s}, D w a F s → RiseF s.files
  short : ∀ {w a F s}, D w a F s → ∀ f ∈ s.files, f.1.length ≤ 9223372036854775807
  new : ∀ (room : Int) (w : World), 0 ≤ room → room ≤ 8388608 → Calls Try.prog 9 #[.int .i64 room] w fun e w' => ∃ a F, e = .returned (.tuple #[.pointer (some a), .int .i64 0]) ∧ D w' a F (newS room) ∧ (∀ k, F k → w.heap.size ≤ k) ∧ Below w.heap.size w w'
  bad : ∀ (room : Int) (w : World), I64 room → ¬ (0 ≤ room ∧ room ≤ 8388608) → Calls Try.prog 9 #[.int .i64 room] w fun e w' => e = .returned (.tuple #[.pointer none, .int .i64 1]) ∧ Below w.heap.size w w'
  append : ∀ (nm b : List UInt8) (a : Addr) (F : Nat → Prop) (s : St) (w : World), D w a F s → Fit s → nm.length ≤ 1000000 → b.length ≤ 1000000 → Calls Try.prog 14 #[.pointer (some a), .string (bs nm), .string (bs b)] w (DRet D (.int .i64 (appendS nm b s).1) a F (appendS nm b s).2 w)
  sync : ∀ (nm : List UInt8) (a : Addr) (F : Nat → Prop) (s : St) (w : World), nm.length ≤ 9223372036854775807 → D w a F s → Fit s → Calls Try.prog 15 #[.pointer (some a), .string (bs nm)] w (DRet D (.int .i64 (syncS nm s).1) a F (syncS nm s).2 w)
  cut : ∀ (nm : List UInt8) (n : Int) (a : Addr) (F : Nat → Prop) (s : St) (w : World), nm.length ≤ 9223372036854775807 → D w a F s → Fit s → I64 n → Calls Try.prog 21 #[.pointer (some a), .string (bs nm), .int .i64 n] w (DRet D (.int .i64 (cutS nm n s).1) a F (cutS nm n s).2 w)
  remove : ∀ (nm : List UInt8) (a : Addr) (F : Nat → Prop) (s : St) (w : World), nm.length ≤ 9223372036854775807 → D w a F s → Fit s → Calls Try.prog 22 #[.pointer (some a), .string (bs nm)] w (DRet D (.int .i64 (removeS nm s).1) a F (removeS nm s).2 w)
  read : ∀ (nm : List UInt8) (a : Addr) (F : Nat → Prop) (s : St) (w : World), nm.length ≤ 9223372036854775807 → D w a F s → Fit s → Calls Try.prog 17 #[.pointer (some a), .string (bs nm)] w (DRet D (.tuple #[.string (bs (readS nm s).1), .int .i64 (readS nm s).2]) a F s w)
  crash : ∀ (keep : List Int) (A : Option Addr) (kl kc : Nat) (a : Addr) (F : Nat → Prop) (s : St) (w : World), D w a F s → Fit s → keep.length = kl → RowAt w A (intC keep) → (∀ g off, A = some (⟨g, off, none⟩ : Addr) → 0 < kl → ¬ F g) → (∀ x ∈ keep, I64 x) → kl ≤ 9223372036854775807 → Calls Try.prog 16 #[.pointer (some a), .slice A kl kc] w (DRet D (.tuple #[]) a F (crashS keep s) w)
  fuse : ∀ (n : Int) (a : Addr) (F : Nat → Prop) (s : St) (w : World), D w a F s → I64 n → Calls Try.prog 18 #[.pointer (some a), .int .i64 n] w (DRet D (.tuple #[]) a F (fuseS n s) w)
  room : ∀ (n : Int) (a : Addr) (F : Nat → Prop) (s : St) (w : World), D w a F s → I64 n → Calls Try.prog 24 #[.pointer (some a), .int .i64 n] w (DRet D (.int .i64 (roomS n s).1) a F (roomS n s).2 w)
  down : ∀ (a : Addr) (F : Nat → Prop) (s : St) (w : World), D w a F s → Calls Try.prog 19 #[.pointer (some a)] w fun e w' => e = .returned (.bool s.off) ∧ Below w.heap.size w w'
  used : ∀ (a : Addr) (F : Nat → Prop) (s : St) (w : World), D w a F s → Fit s → Calls Try.prog 20 #[.pointer (some a)] w fun e w' => e = .returned (.int .i64 (usedS s : Nat)) ∧ Below w.heap.size w w'
  names : ∀ (a : Addr) (F : Nat → Prop) (s : St) (w : World), D w a F s → Fit s → Calls Try.prog 23 #[.pointer (some a)] w fun e w' => (∃ A n cap, e = .returned (.slice A n cap) ∧ (namesL s).length = n ∧ RowAt w' A (strC (namesL s)) ∧ ∀ g off, A = some (⟨g, off, .none⟩ : Addr) → ¬ F g) ∧ Below w.heap.size w w'

theorem GoodD.below (G : GoodD) {w w' : World} {a : Addr} {F : Nat → Prop} {s : St} (h : G.D w a F s) (hb : Below w.heap.size w w') : G.D w' a F s :=
  G.stay h hb.size fun k hk => hb.block k (G.foot h k hk)
/-- The program's disk and the reference's, both s, apart, in memory from B on. -/
structure Both (G : GoodD) (B : Nat) (w : World) (a : Addr) (F : Nat → Prop) (r : Nat) (v : Value) (s : St) : Prop where
  d : G.D w a F s
  ref : RefD w r v s
  apart : ∀ k, F k → k ≠ r ∧ v.ownBlock ≠ some k
  base : ∀ k, F k → B ≤ k
  base2 : B ≤ r
theorem Both.below {G : GoodD} {B : Nat} {w w' : World} {a : Addr} {F : Nat → Prop} {r : Nat} {v : Value} {s : St} (h : Both G B w a F r v s) (hb : Below w.heap.size w w') : Both G B w' a F r v s :=
  ⟨G.below h.d hb, h.ref.below hb, h.apart, h.base, h.base2⟩
theorem own_only {F : Nat → Prop} {w w' : World} {B : Nat} {e : TypeId} {k : Nat} {v : Value} {n : Nat} {cs : List Value} (h : w.ownsRow B e k v n cs) (ho : Only F w w') (hF : ∀ j, F j → v.ownBlock ≠ some j) : w'.ownsRow B e k v n cs := by
  refine ⟨h.1, ?_⟩
  rcases h.2 with ⟨hv, hn⟩ | ⟨g, cap, cur, hv, hb, hh, r⟩
  · exact .inl ⟨hv, hn⟩
  · refine .inr ⟨g, cap, cur, hv, hb, ?_, r⟩
    rw [ho.block g (Array.getElem?_eq_some_iff.1 hh).1 (fun hg => hF g hg (by rw [hv]; rfl))]
    exact hh
theorem RefD.only {F : Nat → Prop} {w w' : World} {r : Nat} {v : Value} {s : St} (h : RefD w r v s) (ho : Only F w w') (hF : ∀ j, F j → j ≠ r ∧ v.ownBlock ≠ some j) : RefD w' r v s :=
  ⟨(ho.block r h.size (fun hr => (hF r hr).1 rfl)).trans h.box, own_only h.own ho fun j hj => (hF j hj).2⟩
/-- First the program's disk, then the reference's. -/
theorem Both.step {G : GoodD} {B : Nat} {w w1 w2 : World} {a : Addr} {F F1 : Nat → Prop} {r : Nat} {v v2 : Value} {s s' : St} (h : Both G B w a F r v s) (hB : B ≤ w.heap.size)
    (hd : G.D w1 a F1 s') (ho : Only F w w1) (hg : ∀ k, F1 k → F k ∨ w.heap.size ≤ k) (hr : RefD w2 r v2 s') (ho2 : Only (Foot r v) w1 w2) (hg2 : ∀ k, v2.ownBlock = some k → v.ownBlock = some k ∨ w1.heap.size ≤ k) :
    Both G B w2 a F1 r v2 s' ∧ Below B w w2 := by
  have hrl := h.ref.size
  have hfoot : ∀ k, F1 k → ¬ Foot r v k := fun k hk hf => by
    rcases hg k hk with h1 | h1
    · rcases hf with rfl | hf
      · exact (h.apart k h1).1 rfl
      · exact (h.apart k h1).2 hf
    · rcases hf with rfl | hf
      · omega
      · have := (h.ref.own.lt k hf).2; omega
  refine ⟨⟨G.stay hd ho2.size fun k hk => ho2.block k (G.foot hd k hk) (hfoot k hk), hr, fun k hk => ⟨fun e => hfoot k hk (.inl e), fun e => ?_⟩, fun k hk => ?_, h.base2⟩, ?_⟩
  · rcases hg2 k e with h1 | h1
    · exact hfoot k hk (.inr h1)
    · have := G.foot hd k hk; omega
  · rcases hg k hk with h1 | h1
    · exact h.base k h1
    · omega
  · refine (ho.below hB h.base).trans (ho2.below (Nat.le_trans hB ho.size) fun k hk => ?_)
    rcases hk with rfl | hk
    · exact h.base2
    · have := (h.ref.own.lt k hk).1; have := h.base2; omega
/-- The program's disk alone, and its state as it was. -/
theorem Both.looked {G : GoodD} {B : Nat} {w w1 : World} {a : Addr} {F F1 : Nat → Prop} {r : Nat} {v : Value} {s : St} (h : Both G B w a F r v s) (hB : B ≤ w.heap.size)
    (hd : G.D w1 a F1 s) (ho : Only F w w1) (hg : ∀ k, F1 k → F k ∨ w.heap.size ≤ k) : Both G B w1 a F1 r v s ∧ Below B w w1 :=
  h.step hB hd ho hg (h.ref.only ho h.apart) (Only.refl _ _) fun _ hk => .inl hk

/-- What a step of both leaves. -/
def BothRet (G : GoodD) (B : Nat) (a : Addr) (r : Nat) (s' : St) (x : Value) (w : World) (e : Ending) (w' : World) : Prop :=
  e = .returned x ∧ ∃ F' v', Both G B w' a F' r v' s' ∧ Below B w w'
theorem ref_kept {x : Value} {r : Nat} {v : Value} {s' : St} {w : World} {f : Nat} {args : Array Value} (h : Calls Try.prog f args w fun e w' => e = .returned x ∧ RefD w' r v s' ∧ Only (Foot r v) w w') : Calls Try.prog f args w (RefRet x r v s' w) :=
  h.mono fun _ _ ⟨he, hr, ho⟩ => ⟨he, v, hr, ho, fun _ hk => .inl hk⟩
end Go.Proofs.Ytbgfkjafablfiaa
