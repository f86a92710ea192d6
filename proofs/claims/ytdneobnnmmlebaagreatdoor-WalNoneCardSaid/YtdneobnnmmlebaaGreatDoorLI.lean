/- Texts of one claim, joined: LH LI. -/
import Derived.Test.YtdneobnnmmlebaaGreatDoorLG
import Derived.Laws.StructEq
/-
  The contract of wal.unbroken.
-/
namespace Go.Proofs.YtdneobnnmmlebaaGreatDoor
open Go.RowKit

theorem rightR.wide {r : Rc} (h : rightR r) : wideR r := h.ok.wide
theorem wframe_inj {r q : Rc} {s t : List UInt8} (hr : wideR r) (hq : wideR q) (h : frameL r ++ s = frameL q ++ t) : r = q ∧ s = t := by
  have h1 := wide_pay hr
  have h2 := wide_pay hq
  have h4 : be4 (payL r).length = be4 (payL q).length := congrArg (List.take 4) h
  have hl := be4_inj (by omega) (by omega) h4
  obtain ⟨e1, e2⟩ := List.append_inj h (by rw [frame_len, frame_len, hl])
  refine ⟨wpay_inj hr hq ?_, e2⟩
  have := congrArg (List.drop 8) e1
  unfold frameL at this
  simpa [be4] using this
theorem wframe_prefix {r q : Rc} {s : List UInt8} (hr : wideR r) (hq : wideR q) (h1 : frameL r <+: s) (h2 : frameL q <+: s) : r = q := by
  obtain ⟨a, ha⟩ := h1
  obtain ⟨b, hb⟩ := h2
  exact (wframe_inj hr hq (ha.trans hb.symm)).1
theorem pay_ge (r : Rc) : 5 ≤ (payL r).length := by
  unfold payL
  simp only [List.length_append, encL_length]
  omega
theorem frames_ge (l : List Rc) : l.length * 13 ≤ (framesL l).length := by
  induction l with
  | nil => exact Nat.zero_le _
  | cons r l ih =>
    have := pay_ge r
    rw [framesL_cons, List.length_append, List.length_cons, frame_len]
    omega
theorem frames_snoc (m : List Rc) (r : Rc) : framesL (m ++ [r]) = framesL m ++ frameL r := by rw [framesL_append, framesL_cons, framesL_nil, List.append_nil]
/-- One element more behind a row of the call's own, up to a hundred million. -/
theorem wpList_push9 {P : Program} {ops : Array Oper} {rest : List Oper} {o : Oper} {a : Act} {Q : Exit → Act → World → Prop} {W : World} (hgd : o.guard = none) (s x : Operand) (t : TypeId)
    (ho : o.op = .call { callee := .builtin .append, args := #[s, x], argTypes := #[t, t] })
    (base : Nat) (e : TypeId) (i : TypeInfo) (z : Value) (k bytes : Nat) (ht : P.underlying t = some (.slice e)) (hi : P.info? e = some i) (hz : i.zero = some z)
    (hsize : i.size = k) (hby : i.bytes = bytes) (hzs : z.cells.size = k) (hk : 0 < k)
    (v : Value) (n : Nat) (xs : List Value) (hs : a.eval s = v) (hown : W.ownsRow base e k v n xs) (news : Array Value) (hx : a.eval x = .slice (some ⟨W.heap.size, 0, none⟩) 1 1)
    (hl : news.size = k) (h1 : ∀ u ∈ news.toList, u.oneCell' = true) (hn : n ≤ 100000000) (hbytes : bytes ≤ 1000) (w0 : World) (hb : Below base w0 W) (hbs : base ≤ W.heap.size)
    (h : ∀ g cap w2, w2.ownsRow base e k (.slice (some ⟨g, 0, none⟩) (n + 1) cap) (n + 1) (xs ++ news.toList) → Below base w0 w2 → wpList P ops Q rest (a.put o.dst (.slice (some ⟨g, 0, none⟩) (n + 1) cap)) w2) :
    wpList P ops Q (o :: rest) a (W.alloc (.cells news e)) := by
  have hal : (W.alloc (.cells news e)).ownsRow base e k v n xs := by
    rcases hown.2 with ⟨hv, h0⟩ | ⟨g, cap, cur, hv, hbg, hh, r⟩
    · exact ⟨hown.1, .inl ⟨hv, h0⟩⟩
    · exact ⟨hown.1, .inr ⟨g, cap, cur, hv, hbg, (Below.heap_alloc W _ g (Array.getElem?_eq_some_iff.1 hh).1).trans hh, r⟩⟩
  refine wpList_append_lies _ hgd s x t ho base e i z k bytes ht hi hz hsize hby hzs hk v n xs hs hal ⟨W.heap.size, 0, none⟩ 1 1 news.toList hx (by simp [hl]) ?_ h1 (by omega) (by unfold maxLen; omega) ?_ (by simp; omega) _ rfl ?_
  · intro j u hu
    have hn : (W.alloc (.cells news e)).heap[W.heap.size]? = some (.cells news e (0, 0)) := by
      show (W.heap.push (Obj.cells news e))[W.heap.size]? = _
      simp
    rw [add_off, Lib.cell_of_heap hn]
    simpa using hu
  · have : (n + 1) * bytes ≤ 100000001 * 1000 := Nat.mul_le_mul (by omega) hbytes
    omega
  · intro g cap w2 hown2 hgrow _ _
    refine h g cap w2 hown2 ?_
    exact (hb.alloc hbs _).grown hgrow (by simp; omega) (fun j hj => (World.ownsRow.lt hal j hj).1)

/-- What unbroken answers. -/
def UnbRet (s : List UInt8) (w : World) (e : Ending) (w' : World) : Prop := ∃ m t A n cap, Scan s m t ∧ e = .returned (.tuple #[.slice A n cap, .int .i64 ((framesL m).length : Nat)]) ∧ m.length = n ∧ w'.ownsRow w.heap.size 28 5 (.slice A n cap) n (rcC m) ∧ Below w.heap.size w w'

set_option maxRecDepth 100000 in
set_option maxHeartbeats 4000000 in
theorem unbroken_any (s : List UInt8) (w : World) (hs : s.length ≤ 1000000000) : Calls Tryz.prog 62 #[.string (bs s)] w (UnbRet s w) := by
  obtain ⟨i0, hi0, hz0, hz1, hz2⟩ := info_parts infoR
  have hsz : (bs s).size = s.length := bs_size _
  have Hex : Hid (∀ k, (bs s).extract k s.length = bs (s.drop k)) := Lib.hid (fun k => by
    rw [← bs_bl ((bs s).extract k s.length), bl_extract, bl_bs, List.take_of_length_le (by rw [List.length_drop]; omega)])
  have H0 : Hid (w.ownsRow w.heap.size 28 5 (.slice none 0 0) ([] : List Rc).length (rcC [])) := Lib.hid (World.ownsRow_nil _ _ _ _)
  generalize bs s = S at *
  go_enter Tryz.func62, Tryz.ntmps62
  go_wp2
  go_loopw [4, 5] (fun lv av wr => ∃ (m : List Rc) (t : List UInt8) (A : Option Addr) (cap : Nat), lv = .slice A m.length cap ∧ av = .int .i64 ((framesL m).length : Nat) ∧ s = framesL m ++ t ∧ (∀ r ∈ m, rightR r) ∧ wr.ownsRow w.heap.size 28 5 (.slice A m.length cap) m.length (rcC m) ∧ Below w.heap.size w wr) (fun _ av _ => s.length - (intOf av).toNat)
  case atStart => exact ⟨[], s, none, 0, rfl, rfl, rfl, fun _ h => by (cases h), H0.out, Below.refl _ _⟩
  case round =>
    clear H0
    obtain ⟨m, t, A, cap, rfl, rfl, heq, hri, hown, hb⟩ := hrel
    have Hown := Lib.hid hown
    have Hb := Lib.hid hb
    have Hri := Lib.hid hri
    obtain ⟨at', hat⟩ : ∃ k, k = (framesL m).length := ⟨_, rfl⟩
    have hats : at' ≤ s.length := by rw [hat, heq, List.length_append]; omega
    have hatz : (at' : Int) ≤ (s.length : Int) := by omega
    have hdr : s.drop at' = t := by rw [hat, heq, List.drop_left]
    have hex := Hex.out at'
    rw [hdr] at hex
    have htl : t.length = s.length - at' := by rw [← hdr, List.length_drop]
    have HU := Lib.hid (unframed_any t wr (by omega))
    have Heq := Lib.hid heq
    have Hat := Lib.hid hat
    have hml : m.length ≤ 100000000 := by have := frames_ge m; omega
    rw [← hat]
    clear hown hb hri heq hat hdr
    generalize hT : bs t = T at *
    clear hT
    go_wp2_with fail
    refine HU.out.mono ?_
    rintro e w1 ⟨o, hfr, rfl, hb1⟩
    have B1 := Lib.hid (Hb.out.trans (below_mono' hb1 Hb.out.size))
    have O1 := Lib.hid (own_below Hown.out hb1)
    clear HU hb1 Hown
    cases o with
    | none =>
      have Hst : Hid (Scan s m t) := Lib.hid ⟨Hri.out, Heq.out, fun r hr => hfr r hr.wide⟩
      unfold unfR unfN recV zeroR
      simp only [Option.getD_none]
      go_wp2
      exact bodyPost_ret (v := .tuple #[.slice A m.length cap, .int .i64 at']) (by simp [results, Tryz.results62, go_sem]) rfl ⟨m, t, A, m.length, cap, Hst.out, by rw [← Hat.out], rfl, own_below O1.out ((Below.refl _ _).alloc (Nat.le_refl _) _), B1.out.alloc B1.out.size _⟩
    | some r =>
      obtain ⟨hwd, hpre⟩ := hfr
      have HV := Lib.hid (fun (W : World) => valid_any r W (by have := hwd.2.2.2.2.2.2.2.2; omega))
      obtain ⟨q, hq⟩ : ∃ q, q = (frameL r).length := ⟨_, rfl⟩
      have hq0 : ((q : Int) == 0) = false := by rw [beq_eq_false_iff_ne, hq, frame_len]; omega
      have hqt : q ≤ t.length := by rw [hq]; exact hpre.length_le
      have Hq := Lib.hid hq
      have Hwd := Lib.hid hwd
      have Hpre := Lib.hid hpre
      unfold unfR unfN recV
      unfold recV at HV
      simp only [Option.getD_some]
      rw [← hq]
      obtain ⟨w2, hw2⟩ : ∃ w2, w2 = w1.alloc (.cells #[.int .i64 r.kind, .int .i64 r.idx, .int .i64 r.term, .int .i64 r.vote, .string (bs r.data)] 28) := ⟨_, rfl⟩
      have B2 : Hid (Below w.heap.size w w2) := Lib.hid (by rw [hw2]; exact B1.out.alloc B1.out.size _)
      have O2 : Hid (w2.ownsRow w.heap.size 28 5 (.slice A m.length cap) m.length (rcC m)) := Lib.hid (by rw [hw2]; exact own_below O1.out ((Below.refl _ _).alloc (Nat.le_refl _) _))
      have d : w2.cell? ⟨w1.heap.size, 0, none⟩ = some (.int .i64 r.kind) ∧ w2.cell? ⟨w1.heap.size, 1, none⟩ = some (.int .i64 r.idx) ∧ w2.cell? ⟨w1.heap.size, 2, none⟩ = some (.int .i64 r.term) ∧ w2.cell? ⟨w1.heap.size, 3, none⟩ = some (.int .i64 r.vote) ∧ w2.cell? ⟨w1.heap.size, 4, none⟩ = some (.string (bs r.data)) := by rw [hw2]; exact ⟨by simp, by simp, by simp, by simp, by simp⟩
      have hlt2 : w1.heap.size < w2.heap.size := by rw [hw2]; simp
      have D := Lib.hid d
      have Hlt2 := Lib.hid hlt2
      have Hw2 := Lib.hid hw2
      clear hq hwd hpre d hw2 hlt2 O1 B1
      by_cases hok : rightR r
      · rw [decide_eq_true hok] at HV
        have Hok := Lib.hid hok
        have Hri2 : Hid (∀ x ∈ m ++ [r], rightR x) := Lib.hid (fun x hx => by
          rcases List.mem_append.1 hx with hx | hx
          · exact Hri.out x hx
          · obtain rfl : x = r := by simpa using hx
            exact hok)
        clear hok
        go_wp2_with fail
        rw [← Hw2.out]
        refine (HV.out _).mono ?_
        rintro e w3 ⟨rfl, hb3⟩
        have d0 : w3.cell? ⟨w1.heap.size, 0, none⟩ = some (.int .i64 r.kind) := (hb3.cell (p := ⟨w1.heap.size, 0, none⟩) Hlt2.out).trans D.out.1
        have d1 : w3.cell? ⟨w1.heap.size, 1, none⟩ = some (.int .i64 r.idx) := (hb3.cell (p := ⟨w1.heap.size, 1, none⟩) Hlt2.out).trans D.out.2.1
        have d2 : w3.cell? ⟨w1.heap.size, 2, none⟩ = some (.int .i64 r.term) := (hb3.cell (p := ⟨w1.heap.size, 2, none⟩) Hlt2.out).trans D.out.2.2.1
        have d3 : w3.cell? ⟨w1.heap.size, 3, none⟩ = some (.int .i64 r.vote) := (hb3.cell (p := ⟨w1.heap.size, 3, none⟩) Hlt2.out).trans D.out.2.2.2.1
        have d4 : w3.cell? ⟨w1.heap.size, 4, none⟩ = some (.string (bs r.data)) := (hb3.cell (p := ⟨w1.heap.size, 4, none⟩) Hlt2.out).trans D.out.2.2.2.2
        have B3 := Lib.hid (B2.out.trans (below_mono' hb3 B2.out.size))
        have O3 := Lib.hid (own_below O2.out hb3)
        clear hb3 O2 B2 HV
        go_wp2_with (at_builtin; refine wpList_push9 rfl (.tmp 24) (.tmp 26) 25 rfl w.heap.size 28 i0 _ 5 48 Tryz.underlying25 hi0 hz0 hz1 hz2 rfl (by omega) (.slice A m.length cap) m.length (rcC m) rfl O3.out #[.int .i64 r.kind, .int .i64 r.idx, .int .i64 r.term, .int .i64 r.vote, .string (bs r.data)] rfl rfl (by intro u hu; simp at hu; rcases hu with rfl | rfl | rfl | rfl | rfl <;> rfl) (by omega) (by omega) w B3.out B3.out.size ?_; intro g4 cap4 w4 hown4 hb4; have O4 := Lib.hid hown4; have B4 := Lib.hid hb4; clear hown4 hb4)
        have hlen : (m ++ [r]).length = m.length + 1 := by simp
        go_roundw
        case rel =>
          refine ⟨m ++ [r], t.drop q, some ⟨g4, 0, none⟩, cap4, by rw [hlen], ?_, ?_, Hri2.out, ?_, B4.out⟩
          · rw [frames_snoc, List.length_append, ← Hat.out, ← Hq.out]; go_num
          · rw [frames_snoc, List.append_assoc, Heq.out]
            congr 1
            obtain ⟨z, hz⟩ := Hpre.out
            rw [← hz, Hq.out, List.drop_left]
          · rw [hlen, rcC_append]; exact O4.out
        case measure => simp [intOf]; have hqp : 0 < q := (by rw [Hq.out, frame_len]; omega); omega
      · rw [decide_eq_false hok] at HV
        have Hst : Hid (Scan s m t) := Lib.hid ⟨Hri.out, Heq.out, fun x hx h => hok (by rw [wframe_prefix Hwd.out hx.wide Hpre.out h]; exact hx)⟩
        clear hok
        go_wp2_with fail
        rw [← Hw2.out]
        refine (HV.out _).mono ?_
        rintro e w3 ⟨rfl, hb3⟩
        have B3 := Lib.hid (B2.out.trans (below_mono' hb3 B2.out.size))
        have O3 := Lib.hid (own_below O2.out hb3)
        clear hb3 O2 B2 HV
        go_wp2
        exact bodyPost_ret (v := .tuple #[.slice A m.length cap, .int .i64 at']) (by simp [results, Tryz.results62, go_sem]) rfl ⟨m, t, A, m.length, cap, Hst.out, by rw [← Hat.out], rfl, O3.out, B3.out⟩
end Go.Proofs.YtdneobnnmmlebaaGreatDoor

/-
  A segment as Open finds it; the contract of wal.scanned.
-/
namespace Go.Proofs.YtdneobnnmmlebaaGreatDoor
open Go.RowKit

/-- A segment as Open finds it: its number, its bytes, whether it begins, its records, the bytes ahead of what is broken, where the records lie. -/
structure Sg where
  n : Nat
  c : List UInt8
  beg : Bool
  recs : List Rc
  good : Nat
  A : Option Addr
  cap : Nat
def sgC1 (g : Sg) : List Value := [.int .i64 (g.n : Nat), .bool g.beg, .slice g.A g.recs.length g.cap, .int .i64 (g.good : Nat), .int .i64 (g.c.length : Nat)]
def sgV (g : Sg) : Value := .agg #[.int .i64 (g.n : Nat), .bool g.beg, .slice g.A g.recs.length g.cap, .int .i64 (g.good : Nat), .int .i64 (g.c.length : Nat)]
def sgC (l : List Sg) : List Value := l.flatMap sgC1
/-- What is found is so. -/
def SgOk (g : Sg) : Prop :=
  (g.beg = true ∧ ∃ k b t, k ≤ g.recs.length ∧ k ≤ top ∧ g.c = headL k ++ b ∧ Scan b g.recs t ∧ g.good = (headL k).length + (framesL g.recs).length) ∨
  (g.beg = false ∧ ¬ Beg g.c ∧ ∃ t, Scan g.c g.recs t ∧ g.good = (framesL g.recs).length)
theorem head_frame (k : Nat) : headL k = frameL (headR k) := rfl
theorem headR_wide {k : Nat} (h : k ≤ top) : wideR (headR k) := (okH h).wide
theorem beg_scan {b rest : List UInt8} {k : Nat} {l : List Rc} {t : List UInt8} (hk : k ≤ top) (hb : b = headL k ++ rest) (hs : Scan rest l t) : Beg b ↔ k ≤ l.length := by
  constructor
  · rintro ⟨m, u, hm, hml, e⟩
    rw [hb, head_frame, head_frame] at e
    obtain ⟨e1, e2⟩ := wframe_inj (headR_wide hk) (headR_wide hml) e
    have : k = m.length := by
      have := congrArg Rc.idx e1
      unfold headR at this
      simp only at this
      omega
    rw [this]
    exact scan_more hs hm e2
  · intro h
    refine ⟨l.take k, framesL (l.drop k) ++ t, fun r hr => hs.right r (List.mem_of_mem_take hr), by rw [List.length_take]; omega, ?_⟩
    rw [hb, hs.eq, List.length_take, Nat.min_eq_left h, ← List.append_assoc (framesL _), ← framesL_append, List.take_append_drop]
theorem beg_head {b : List UInt8} (h : Beg b) : ∃ k, k ≤ top ∧ frameL (headR k) <+: b := by
  obtain ⟨m, t, _, hm, rfl⟩ := h
  exact ⟨m.length, hm, ⟨_, rfl⟩⟩
/-- What scanned answers. -/
def ScRet (n : Nat) (s : List UInt8) (w : World) (e : Ending) (w' : World) : Prop :=
  ∃ g : Sg, g.n = n ∧ g.c = s ∧ SgOk g ∧ e = .returned (sgV g) ∧ w'.ownsRow w.heap.size 28 5 (.slice g.A g.recs.length g.cap) g.recs.length (rcC g.recs) ∧ Below w.heap.size w w'
theorem recV_eq (r : Rc) (k : Nat) : (r = headR k) ↔ (r.kind = 1 ∧ r.idx = k ∧ r.term = 0 ∧ r.vote = 0 ∧ r.data = []) := by
  obtain ⟨a, b, c, d, e⟩ := r
  unfold headR
  simp
theorem set5_only {F : Nat → Prop} {u w : World} {g : Nat} (h : Only F u w) (hg : F g ∨ u.heap.size ≤ g) (v0 v1 v2 v3 v4 : Value) : Only F u (set5 w g v0 v1 v2 v3 v4) :=
  ((((h.setCell ⟨g, 0, none⟩ v0 hg).setCell ⟨g, 1, none⟩ v1 hg).setCell ⟨g, 2, none⟩ v2 hg).setCell ⟨g, 3, none⟩ v3 hg).setCell ⟨g, 4, none⟩ v4 hg
/-- A row of the call's own stays when another block is stored into. -/
theorem own_set5 {w : World} {B g : Nat} {e : TypeId} {k : Nat} {v : Value} {n : Nat} {cs : List Value} (h : w.ownsRow B e k v n cs) (hg : g < B) (v0 v1 v2 v3 v4 : Value) : (set5 w g v0 v1 v2 v3 v4).ownsRow B e k v n cs :=
  own_only h (set5_only (F := fun j => j = g) (Only.refl _ w) (.inl rfl) v0 v1 v2 v3 v4) (fun j hj hv => by
    have := (World.ownsRow.lt h j hv).1
    omega)
theorem eql_rec (r q : Rc) (w : World) : (binOp .eql 28 (recV r) (recV q)).run Tryz.prog w = .ok (.bool (sameR r q)) w := by
  have h := neq_rec r q w
  unfold recV at h ⊢
  rw [run_neq_struct] at h
  rw [run_eql_struct]
  generalize (Op.equalIn 10000 28 _ _).run Tryz.prog w = z at h ⊢
  cases z with
  | ok b w' =>
    simp only [Result.andThen_ok, Result.ok.injEq, Value.bool.injEq] at h ⊢
    exact ⟨by rw [← Bool.not_not b, h.1, Bool.not_not], h.2⟩
  | _ => cases h
def zeroS : List Value := [.int .i64 0, .bool false, .slice none 0 0, .int .i64 0, .int .i64 0]
theorem zeroS_cells {w : World} {g : Nat} (h : Holds w g 88 zeroS) : w.cell? ⟨g, 0, none⟩ = some (.int .i64 0) ∧ w.cell? ⟨g, 1, none⟩ = some (.bool false) ∧ w.cell? ⟨g, 2, none⟩ = some (.slice none 0 0) ∧ w.cell? ⟨g, 3, none⟩ = some (.int .i64 0) ∧ w.cell? ⟨g, 4, none⟩ = some (.int .i64 0) := holds5 h
theorem zeroS_frozen {w : World} {g : Nat} (h : Holds w g 88 zeroS) : w.frozen? ⟨g, 0, none⟩ = false ∧ w.frozen? ⟨g, 1, none⟩ = false ∧ w.frozen? ⟨g, 2, none⟩ = false ∧ w.frozen? ⟨g, 3, none⟩ = false ∧ w.frozen? ⟨g, 4, none⟩ = false :=
  ⟨h.frozen 0, h.frozen 1, h.frozen 2, h.frozen 3, h.frozen 4⟩

set_option maxRecDepth 100000 in
set_option maxHeartbeats 4000000 in
theorem scanned_any (n : Nat) (l : List UInt8) (w : World) (hl : l.length ≤ 1000000000) : Calls Tryz.prog 48 #[.int .i64 (n : Int), .string (bs l)] w (ScRet n l w) := by
  have hsz : (bs l).size = l.length := bs_size _
  have HU := Lib.hid (fun (W : World) => unframed_any l W (by omega))
  have HA := Lib.hid (fun (W : World) => unbroken_any l W hl)
  have Hex : Hid (∀ k, (bs l).extract k l.length = bs (l.drop k)) := Lib.hid (fun k => by
    rw [← bs_bl ((bs l).extract k l.length), bl_extract, bl_bs, List.take_of_length_le (by rw [List.length_drop]; omega)])
  obtain ⟨wb, hwb⟩ : ∃ wb, wb = w.alloc (.cells #[.int .i64 0, .bool false, .slice none 0 0, .int .i64 0, .int .i64 0] 88) := ⟨_, rfl⟩
  have HB : Hid (Holds wb w.heap.size 88 zeroS) := Lib.hid (by rw [hwb]; exact Holds.new w 88 _)
  have Bb : Hid (Below w.heap.size w wb) := Lib.hid (by rw [hwb]; exact (Below.refl _ _).alloc (Nat.le_refl _) _)
  have hgb : w.heap.size < wb.heap.size := by rw [hwb]; simp
  have Hwb := Lib.hid hwb
  obtain ⟨g, hg⟩ : ∃ g, g = w.heap.size := ⟨_, rfl⟩
  have Hg := Lib.hid hg
  rw [← hg] at HB hgb
  have Hgb := Lib.hid hgb
  clear hwb hg hgb
  generalize hS : bs l = S at *
  clear hS
  go_enter Tryz.func48, Tryz.ntmps48
  go_wp2_with fail
  rw [← Hwb.out]
  refine (HU.out _).mono ?_
  rintro e w1 ⟨o, hfr, rfl, hb1⟩
  rw [← Hg.out]
  have H1 := Lib.hid (HB.out.below hb1 Hgb.out)
  have B1 := Lib.hid (Bb.out.trans (below_mono' hb1 Bb.out.size))
  clear hb1 HB Bb
  cases o with
  | none =>
    have Hnb : Hid (¬ Beg l) := Lib.hid (fun h => by obtain ⟨k, hk, hp⟩ := beg_head h; exact hfr _ (headR_wide hk) hp)
    unfold unfR unfN recV zeroR
    simp only [Option.getD_none]
    go_wp2_with fail
    go_quiet (fail)
    obtain ⟨w2, hw2⟩ : ∃ w2, w2 = (w1.alloc (.cells #[.int .i64 0, .int .i64 0, .int .i64 0, .int .i64 0, .string (bs [])] 28)).drewN nq := ⟨_, rfl⟩
    rw [← hw2]
    have H2 : Hid (Holds w2 g 88 zeroS) := Lib.hid (by rw [hw2]; exact (H1.out.alloc _).drewN' nq)
    have B2 : Hid (Below w.heap.size w w2) := Lib.hid (by rw [hw2]; exact below_drewN (B1.out.alloc B1.out.size _) nq)
    clear hw2 H1 B1
    go_wp2_with fail
    refine (HA.out _).mono ?_
    rintro e wA ⟨m, t, A, nA, cap, hsc, rfl, hmn, hown, hbA⟩
    subst hmn
    have HXA := H2.out.below hbA H2.out.lt
    have HXB := Lib.hid HXA
    have BA := Lib.hid (B2.out.trans (below_mono' hbA B2.out.size))
    have Own := Lib.hid hown
    have Hsc := Lib.hid hsc
    obtain ⟨c0, c1, c2, c3, c4⟩ := zeroS_cells HXA
    obtain ⟨f0, f1, f2, f3, f4⟩ := zeroS_frozen HXA
    clear HXA hbA hown hsc
    go_wp2
    change bodyPost Tryz.prog Tryz.f48 (ScRet n l w) Exit.ret _ (set5 wA g (.int .i64 (n : Int)) (.bool false) (.slice A m.length cap) (.int .i64 ((framesL m).length : Nat)) (.int .i64 (l.length : Nat)))
    have HX := set5_holds HXB.out (.int .i64 (n : Int)) (.bool false) (.slice A m.length cap) (.int .i64 ((framesL m).length : Nat)) (.int .i64 (l.length : Nat))
    have BX := Lib.hid (set5_below BA.out (Nat.le_of_eq Hg.out.symm) (.int .i64 (n : Int)) (.bool false) (.slice A m.length cap) (.int .i64 ((framesL m).length : Nat)) (.int .i64 (l.length : Nat)))
    have OX := Lib.hid (own_set5 Own.out H2.out.lt (.int .i64 (n : Int)) (.bool false) (.slice A m.length cap) (.int .i64 ((framesL m).length : Nat)) (.int .i64 (l.length : Nat)))
    generalize set5 wA g (.int .i64 (n : Int)) (.bool false) (.slice A m.length cap) (.int .i64 ((framesL m).length : Nat)) (.int .i64 (l.length : Nat)) = wx at *
    obtain ⟨x0, x1, x2, x3, x4⟩ := holds5 HX
    exact bodyPost_ret (v := .agg #[.int .i64 (n : Int), .bool false, .slice A m.length cap, .int .i64 ((framesL m).length : Nat), .int .i64 (l.length : Nat)]) (by simp [results, Tryz.results48, go_sem, x0, x1, x2, x3, x4]) rfl ⟨⟨n, l, false, m, (framesL m).length, A, cap⟩, rfl, rfl, .inr ⟨rfl, Hnb.out, t, Hsc.out, rfl⟩, rfl, own_base OX.out B2.out.size, BX.out⟩
  | some r =>
    obtain ⟨hwd, hpre⟩ := hfr
    obtain ⟨q, hq⟩ : ∃ q, q = (frameL r).length := ⟨_, rfl⟩
    have hql : q ≤ l.length := by rw [hq]; exact hpre.length_le
    have hqz : (0 : Int) < (q : Int) := by rw [hq, frame_len]; omega
    have hqlz : (q : Int) ≤ (l.length : Int) := by omega
    have hqd : decide (0 < q) = true := decide_eq_true (by omega)
    have hex := Hex.out q
    have HT := Lib.hid (fun (W : World) => unbroken_any (l.drop q) W (by rw [List.length_drop]; omega))
    generalize hT : bs (l.drop q) = T at *
    clear hT
    obtain ⟨k, hk⟩ : ∃ k : Nat, r.idx = (k : Int) := ⟨r.idx.toNat, by have := hwd.2.2.1; omega⟩
    have hk62 : k ≤ top := by have := hwd.2.2.2.1; unfold top; omega
    have Hq := Lib.hid hq
    have Hwd := Lib.hid hwd
    have Hpre := Lib.hid hpre
    have HH := Lib.hid (fun (W : World) => header_any k W)
    have heq := fun (W : World) => eql_rec r (headR k) W
    have Hrk := Lib.hid (recV_eq r k)
    have hbool : sameR r (headR k) = true ↔ r = headR k := sameR_iff
    have Hbool := Lib.hid hbool
    unfold unfR unfN
    simp only [Option.getD_some]
    rw [← hq]
    have HRv : Hid (∃ a c d s, r = ⟨a, (k : Int), c, d, s⟩) := Lib.hid ⟨r.kind, r.term, r.vote, r.data, by rw [← hk]⟩
    generalize hsm : sameR r (headR k) = sm at *
    clear hsm hq hwd hpre hbool hk
    obtain ⟨a, c, d, s, rfl⟩ := HRv.out
    clear HRv
    unfold recV at heq HH
    unfold headR at heq HH
    unfold recV
    simp only at heq HH ⊢
    obtain ⟨w2, hw2⟩ : ∃ w2, w2 = w1.alloc (.cells #[.int .i64 a, .int .i64 (k : Int), .int .i64 c, .int .i64 d, .string (bs s)] 28) := ⟨_, rfl⟩
    have H2 : Hid (Holds w2 g 88 zeroS) := Lib.hid (by rw [hw2]; exact H1.out.alloc _)
    have B2 : Hid (Below w.heap.size w w2) := Lib.hid (by rw [hw2]; exact B1.out.alloc B1.out.size _)
    have d0 : w2.cell? ⟨w1.heap.size, 0, none⟩ = some (.int .i64 a) ∧ w2.cell? ⟨w1.heap.size, 1, none⟩ = some (.int .i64 (k : Int)) ∧ w2.cell? ⟨w1.heap.size, 2, none⟩ = some (.int .i64 c) ∧ w2.cell? ⟨w1.heap.size, 3, none⟩ = some (.int .i64 d) ∧ w2.cell? ⟨w1.heap.size, 4, none⟩ = some (.string (bs s)) := by rw [hw2]; exact ⟨by simp, by simp, by simp, by simp, by simp⟩
    have hlt2 : w1.heap.size < w2.heap.size := by rw [hw2]; simp
    have D := Lib.hid d0
    have Hlt2 := Lib.hid hlt2
    have Hw2 := Lib.hid hw2
    clear d0 hw2 hlt2
    go_wp2_with fail
    rw [← Hw2.out]
    have d0 := D.out
    clear H1 B1
    cases sm with
    | true =>
      go_region_held3 (fun W => W.cell? ⟨w1.heap.size, 0, none⟩ = some (.int .i64 a) ∧ W.cell? ⟨w1.heap.size, 1, none⟩ = some (.int .i64 (k : Int)) ∧ W.cell? ⟨w1.heap.size, 2, none⟩ = some (.int .i64 c) ∧ W.cell? ⟨w1.heap.size, 3, none⟩ = some (.int .i64 d) ∧ W.cell? ⟨w1.heap.size, 4, none⟩ = some (.string (bs s)))
        (first
          | exact d0
          | exact ⟨(Hb3.out.cell (p := ⟨w1.heap.size, 0, none⟩) Hlt2.out).trans d0.1, (Hb3.out.cell (p := ⟨w1.heap.size, 1, none⟩) Hlt2.out).trans d0.2.1, (Hb3.out.cell (p := ⟨w1.heap.size, 2, none⟩) Hlt2.out).trans d0.2.2.1, (Hb3.out.cell (p := ⟨w1.heap.size, 3, none⟩) Hlt2.out).trans d0.2.2.2.1, (Hb3.out.cell (p := ⟨w1.heap.size, 4, none⟩) Hlt2.out).trans d0.2.2.2.2⟩
          | go_keep)
        (first
          | (go_at_call 33; refine (HH.out _).mono ?_; rintro e w3 ⟨rfl, hb3⟩; have Hb3 : Hid (Below w2.heap.size w2 w3) := Lib.hid ((Below.refl _ w2).drew.trans hb3); clear hb3)
          | fail "no arm")
      go_wp2_with fail
      refine (HT.out _).mono ?_
      rintro e w4 ⟨m, t, A, nA, cap, hsc, rfl, hmn, hown, hb4⟩
      subst hmn
      have hrh := Hbool.out.1 trivial
      have Hc : Hid (l = headL k ++ l.drop q) := Lib.hid (by
        obtain ⟨z, hz⟩ := Hpre.out
        have hz2 := hz
        rw [hrh] at hz2 Hq
        rw [head_frame]
        conv => lhs; rw [← hz2]
        rw [← hz2, Hq.out, List.drop_left])
      have Hqh : Hid (q = (headL k).length) := Lib.hid (by rw [Hq.out, hrh, head_frame])
      have hfl : (framesL m).length ≤ 1000000000 := by
        have h1 := congrArg List.length hsc.eq
        rw [List.length_append, List.length_drop] at h1
        omega
      have dk : w4.cell? ⟨w1.heap.size, 1, none⟩ = some (.int .i64 (k : Int)) := (hb4.cell (p := ⟨w1.heap.size, 1, none⟩) (Nat.lt_of_lt_of_le Hlt2.out Hb3.out.size)).trans ((Hb3.out.cell (p := ⟨w1.heap.size, 1, none⟩) Hlt2.out).trans d0.2.1)
      have H3 := Lib.hid (H2.out.below Hb3.out H2.out.lt)
      have H4 := Lib.hid (H3.out.below hb4 H3.out.lt)
      have B3 := Lib.hid (B2.out.trans (below_mono' Hb3.out B2.out.size))
      have B4 := Lib.hid (B3.out.trans (below_mono' hb4 B3.out.size))
      have Hsc := Lib.hid hsc
      have Own := Lib.hid hown
      have Hbs := Lib.hid (beg_scan hk62 Hc.out hsc)
      clear hrh hsc hown hb4 d0
      by_cases hkm : k ≤ m.length
      · have hkz : (k : Int) ≤ (m.length : Int) := by omega
        obtain ⟨c0, c1, c2, c3, c4⟩ := zeroS_cells H4.out
        obtain ⟨f0, f1, f2, f3, f4⟩ := zeroS_frozen H4.out
        have hq7 : q ≤ 1000000000 := by omega
        go_wp2
        change bodyPost Tryz.prog Tryz.f48 (ScRet n l w) Exit.ret _ (set5 w4 g (.int .i64 (n : Int)) (.bool true) (.slice A m.length cap) (.int .i64 ((q : Int) + ((framesL m).length : Nat))) (.int .i64 (l.length : Nat)))
        have HX := set5_holds H4.out (.int .i64 (n : Int)) (.bool true) (.slice A m.length cap) (.int .i64 ((q : Int) + ((framesL m).length : Nat))) (.int .i64 (l.length : Nat))
        have BX := Lib.hid (set5_below B4.out (Nat.le_of_eq Hg.out.symm) (.int .i64 (n : Int)) (.bool true) (.slice A m.length cap) (.int .i64 ((q : Int) + ((framesL m).length : Nat))) (.int .i64 (l.length : Nat)))
        have OX := Lib.hid (own_set5 Own.out H3.out.lt (.int .i64 (n : Int)) (.bool true) (.slice A m.length cap) (.int .i64 ((q : Int) + ((framesL m).length : Nat))) (.int .i64 (l.length : Nat)))
        generalize set5 w4 g (.int .i64 (n : Int)) (.bool true) (.slice A m.length cap) (.int .i64 ((q : Int) + ((framesL m).length : Nat))) (.int .i64 (l.length : Nat)) = wx at *
        obtain ⟨x0, x1, x2, x3, x4⟩ := holds5 HX
        exact bodyPost_ret (v := .agg #[.int .i64 (n : Int), .bool true, .slice A m.length cap, .int .i64 ((q : Int) + ((framesL m).length : Nat)), .int .i64 (l.length : Nat)]) (by simp [results, Tryz.results48, go_sem, x0, x1, x2, x3, x4]) rfl ⟨⟨n, l, true, m, q + (framesL m).length, A, cap⟩, rfl, rfl, .inl ⟨rfl, k, l.drop q, t, hkm, hk62, Hc.out, Hsc.out, by rw [Hqh.out]⟩, by unfold sgV; simp only [Int.natCast_add], own_base OX.out B3.out.size, BX.out⟩
      · have hkz : ¬ (k : Int) ≤ (m.length : Int) := by omega
        have Hnb : Hid (¬ Beg l) := Lib.hid (fun h => hkm (Hbs.out.1 h))
        clear hkm
        go_wp2_with fail
        refine (HA.out _).mono ?_
        clear Own Hsc Hbs hfl dk
        generalize m = m0 at *
        generalize t = t0 at *
        rintro e wA ⟨m, t, A, nA, cap, hsc, rfl, hmn, hown, hbA⟩
        subst hmn
        have HXA := H4.out.below hbA H4.out.lt
        have HXB := Lib.hid HXA
        have BA := Lib.hid (B4.out.trans (below_mono' hbA B4.out.size))
        have Own := Lib.hid hown
        have Hsc := Lib.hid hsc
        obtain ⟨c0, c1, c2, c3, c4⟩ := zeroS_cells HXA
        obtain ⟨f0, f1, f2, f3, f4⟩ := zeroS_frozen HXA
        clear HXA hbA hown hsc
        go_wp2
        change bodyPost Tryz.prog Tryz.f48 (ScRet n l w) Exit.ret _ (set5 wA g (.int .i64 (n : Int)) (.bool false) (.slice A m.length cap) (.int .i64 ((framesL m).length : Nat)) (.int .i64 (l.length : Nat)))
        have HX := set5_holds HXB.out (.int .i64 (n : Int)) (.bool false) (.slice A m.length cap) (.int .i64 ((framesL m).length : Nat)) (.int .i64 (l.length : Nat))
        have BX := Lib.hid (set5_below BA.out (Nat.le_of_eq Hg.out.symm) (.int .i64 (n : Int)) (.bool false) (.slice A m.length cap) (.int .i64 ((framesL m).length : Nat)) (.int .i64 (l.length : Nat)))
        have OX := Lib.hid (own_set5 Own.out H4.out.lt (.int .i64 (n : Int)) (.bool false) (.slice A m.length cap) (.int .i64 ((framesL m).length : Nat)) (.int .i64 (l.length : Nat)))
        generalize set5 wA g (.int .i64 (n : Int)) (.bool false) (.slice A m.length cap) (.int .i64 ((framesL m).length : Nat)) (.int .i64 (l.length : Nat)) = wx at *
        obtain ⟨x0, x1, x2, x3, x4⟩ := holds5 HX
        exact bodyPost_ret (v := .agg #[.int .i64 (n : Int), .bool false, .slice A m.length cap, .int .i64 ((framesL m).length : Nat), .int .i64 (l.length : Nat)]) (by simp [results, Tryz.results48, go_sem, x0, x1, x2, x3, x4]) rfl ⟨⟨n, l, false, m, (framesL m).length, A, cap⟩, rfl, rfl, .inr ⟨rfl, Hnb.out, t, Hsc.out, rfl⟩, rfl, own_base OX.out B4.out.size, BX.out⟩
    | false =>
      go_region_held3 (fun W => W.cell? ⟨w1.heap.size, 0, none⟩ = some (.int .i64 a) ∧ W.cell? ⟨w1.heap.size, 1, none⟩ = some (.int .i64 (k : Int)) ∧ W.cell? ⟨w1.heap.size, 2, none⟩ = some (.int .i64 c) ∧ W.cell? ⟨w1.heap.size, 3, none⟩ = some (.int .i64 d) ∧ W.cell? ⟨w1.heap.size, 4, none⟩ = some (.string (bs s)))
        (first
          | exact d0
          | exact ⟨(Hb3.out.cell (p := ⟨w1.heap.size, 0, none⟩) Hlt2.out).trans d0.1, (Hb3.out.cell (p := ⟨w1.heap.size, 1, none⟩) Hlt2.out).trans d0.2.1, (Hb3.out.cell (p := ⟨w1.heap.size, 2, none⟩) Hlt2.out).trans d0.2.2.1, (Hb3.out.cell (p := ⟨w1.heap.size, 3, none⟩) Hlt2.out).trans d0.2.2.2.1, (Hb3.out.cell (p := ⟨w1.heap.size, 4, none⟩) Hlt2.out).trans d0.2.2.2.2⟩
          | go_keep)
        (first
          | (go_at_call 33; refine (HH.out _).mono ?_; rintro e w3 ⟨rfl, hb3⟩; have Hb3 : Hid (Below w2.heap.size w2 w3) := Lib.hid ((Below.refl _ w2).drew.trans hb3); clear hb3)
          | fail "no arm")
      have H3 := Lib.hid (H2.out.below Hb3.out H2.out.lt)
      have B3 := Lib.hid (B2.out.trans (below_mono' Hb3.out B2.out.size))
      have Hnb : Hid (¬ Beg l) := Lib.hid (fun h => by
        obtain ⟨k', hk', hp'⟩ := beg_head h
        have e := wframe_prefix Hwd.out (headR_wide hk') Hpre.out hp'
        have hkk : (k : Int) = (k' : Int) := by
          have := congrArg Rc.idx e
          unfold headR at this
          exact this
        have : k = k' := by omega
        rw [← this] at e
        exact absurd (Hbool.out.2 e) (by simp))
      clear d0
      go_wp2_with fail
      refine (HA.out _).mono ?_
      rintro e wA ⟨m, t, A, nA, cap, hsc, rfl, hmn, hown, hbA⟩
      subst hmn
      have HXA := H3.out.below hbA H3.out.lt
      have HXB := Lib.hid HXA
      have BA := Lib.hid (B3.out.trans (below_mono' hbA B3.out.size))
      have Own := Lib.hid hown
      have Hsc := Lib.hid hsc
      obtain ⟨c0, c1, c2, c3, c4⟩ := zeroS_cells HXA
      obtain ⟨f0, f1, f2, f3, f4⟩ := zeroS_frozen HXA
      clear HXA hbA hown hsc
      go_wp2
      change bodyPost Tryz.prog Tryz.f48 (ScRet n l w) Exit.ret _ (set5 wA g (.int .i64 (n : Int)) (.bool false) (.slice A m.length cap) (.int .i64 ((framesL m).length : Nat)) (.int .i64 (l.length : Nat)))
      have HX := set5_holds HXB.out (.int .i64 (n : Int)) (.bool false) (.slice A m.length cap) (.int .i64 ((framesL m).length : Nat)) (.int .i64 (l.length : Nat))
      have BX := Lib.hid (set5_below BA.out (Nat.le_of_eq Hg.out.symm) (.int .i64 (n : Int)) (.bool false) (.slice A m.length cap) (.int .i64 ((framesL m).length : Nat)) (.int .i64 (l.length : Nat)))
      have OX := Lib.hid (own_set5 Own.out H3.out.lt (.int .i64 (n : Int)) (.bool false) (.slice A m.length cap) (.int .i64 ((framesL m).length : Nat)) (.int .i64 (l.length : Nat)))
      generalize set5 wA g (.int .i64 (n : Int)) (.bool false) (.slice A m.length cap) (.int .i64 ((framesL m).length : Nat)) (.int .i64 (l.length : Nat)) = wx at *
      obtain ⟨x0, x1, x2, x3, x4⟩ := holds5 HX
      exact bodyPost_ret (v := .agg #[.int .i64 (n : Int), .bool false, .slice A m.length cap, .int .i64 ((framesL m).length : Nat), .int .i64 (l.length : Nat)]) (by simp [results, Tryz.results48, go_sem, x0, x1, x2, x3, x4]) rfl ⟨⟨n, l, false, m, (framesL m).length, A, cap⟩, rfl, rfl, .inr ⟨rfl, Hnb.out, t, Hsc.out, rfl⟩, rfl, own_base OX.out B3.out.size, BX.out⟩
end Go.Proofs.YtdneobnnmmlebaaGreatDoor
