/-
  SpanUnions walked, by what is asked of the program's own functions.
-/
import Derived.Test.YtfjgikcbngfhmaaSO
namespace Go.Proofs.Ytfjgikcbngfhmaa
open Go.RowKit

theorem wpList_append_none {P : Program} {w : World} {ops : Array Oper} {rest : List Oper} {o : Oper} {a : Act} {Q : Exit → Act → World → Prop} (hgd : o.guard = none) (s x : Operand) (t : TypeId)
    (ho : o.op = .call { callee := .builtin .append, args := #[s, x], argTypes := #[t, t] }) (e : TypeId) (i : TypeInfo) (ht : P.underlying t = some (.slice e)) (hi : P.info? e = some i)
    (g : Nat) (A : Option Addr) (c : Nat) (hs : a.eval s = .slice (some ⟨g, 0, none⟩) 0 0) (hx : a.eval x = .slice A 0 c)
    (h : wpList P ops Q rest (a.put o.dst (.slice (some ⟨g, 0, none⟩) 0 0)) w) : wpList P ops Q (o :: rest) a w := by
  have hr := run_append_none (P := P) w t o.type e i ht hi g A c
  refine wpList_plain hgd fun K hK => ?_
  unfold Oper.wp execOp
  simp only [ho, resolve, invoke, builtin, Sem.run_bind, Sem.run_pure, Result.andThen_ok, List.map_toArray, List.map_cons, List.map_nil, hs, hx, hr]
  exact hK _ _ h
/-- A row that lies, behind an empty row of the call's own. -/
theorem wpList_append_row {P : Program} {w : World} {ops : Array Oper} {rest : List Oper} {o : Oper} {a : Act} {Q : Exit → Act → World → Prop} (hgd : o.guard = none) (s x : Operand) (t : TypeId)
    (ho : o.op = .call { callee := .builtin .append, args := #[s, x], argTypes := #[t, t] })
    (base : Nat) (e : TypeId) (i : TypeInfo) (z : Value) (k bytes : Nat) (ht : P.underlying t = some (.slice e)) (hi : P.info? e = some i) (hz : i.zero = some z)
    (hsize : i.size = k) (hby : i.bytes = bytes) (hzs : z.cells.size = k) (hk : 0 < k)
    (g : Nat) (hs : a.eval s = .slice (some ⟨g, 0, none⟩) 0 0) (hown : w.ownsRow base e k (.slice (some ⟨g, 0, none⟩) 0 0) 0 [])
    (A : Option Addr) (n c : Nat) (cs : List Value) (hx : a.eval x = .slice A n c) (hrow : RowAt w A cs) (hl : cs.length = n * k) (h1 : ∀ u ∈ cs, u.oneCell' = true) (hn : n ≤ 1000000) (hbytes : bytes ≤ 1000)
    (w0 : World) (hb : Below base w0 w) (hbs : base ≤ w.heap.size)
    (h : ∀ g' cap' w', w'.ownsRow base e k (.slice (some ⟨g', 0, none⟩) n cap') n cs → Below base w0 w' → wpList P ops Q rest (a.put o.dst (.slice (some ⟨g', 0, none⟩) n cap')) w') : wpList P ops Q (o :: rest) a w := by
  by_cases h0 : n = 0
  · subst h0
    have hcs : cs = [] := List.eq_nil_of_length_eq_zero (by omega)
    subst hcs
    exact wpList_append_none hgd s x t ho e i ht hi g A c hs hx (h g 0 w hown hb)
  · obtain ⟨u0, hu0⟩ : ∃ u0, cs[0]? = some u0 := ⟨_, List.getElem?_eq_getElem (by rw [hl]; exact Nat.mul_pos (by omega) hk)⟩
    obtain ⟨b, off, hA, _, _⟩ := hrow 0 u0 hu0
    refine wpList_append_lies _ hgd s x t ho base e i z k bytes ht hi hz hsize hby hzs hk _ 0 [] hs hown ⟨b, off, none⟩ n c cs (by rw [hx, hA]) hl ?_ h1 (by omega) (by unfold maxLen; omega) ?_ hbs _ rfl ?_
    · intro j u hu
      obtain ⟨b', off', hA', _, hc⟩ := hrow j u hu
      rw [hA] at hA'
      injection hA' with hA'
      injection hA' with e1 e2
      subst e1
      subst e2
      rw [row_add]; exact hc
    · have : (0 + n) * bytes ≤ 1000000 * 1000 := Nat.mul_le_mul (by omega) hbytes
      omega
    · intro g' cap' w' hown' hgrow _ _
      simp only [Nat.zero_add, List.nil_append] at hown'
      exact (by simpa using h g' cap' w' hown' (hb.grown hgrow hbs (fun j hj => (World.ownsRow.lt hown j hj).1)))

theorem made_length : ∀ (r : List (List UInt8 × Bool)) (o : Option (List UInt8)), (madeL o r).length ≤ r.length + (if o.isSome = true then 1 else 0)
  | [], none => by simp [madeL]
  | [], some f => by simp [madeL]
  | (e, h) :: r, none => by
    have h1 := made_length r (some e)
    have h2 := made_length r none
    simp at h1 h2
    unfold madeL
    split <;> simp <;> omega
  | (e, h) :: r, some f => by
    have h1 := made_length r (some f)
    have h2 := made_length r none
    simp at h1 h2
    unfold madeL
    split <;> simp <;> omega
theorem ends_length : ∀ (l : List Sp) (o : List (List UInt8)), (l.foldl endF o).length ≤ o.length + 2 * l.length
  | [], o => by simp
  | s :: l, o => by
    rw [List.foldl_cons]
    have h1 := ends_length l (endF o s)
    have h2 : (endF o s).length ≤ o.length + 2 := by
      unfold endF
      split
      · have := putL_length s.1 o
        have := putL_length s.2 (putL o s.1)
        omega
      · omega
    simp only [List.length_cons]
    omega
theorem union_length (l : List Sp) (n : Nat) (hn : l.length = n) : (unionL l).length ≤ 1 + 2 * n := by
  have h := made_length ((endsL l).map fun e => (e, anyL l e)) none
  have h2 := ends_length l [[]]
  simp at h
  unfold unionL
  have h3 : (endsL l).length ≤ 1 + 2 * l.length := by unfold endsL; simpa using h2
  omega
theorem minus_length (l : List Sp) (s : Sp) (n : Nat) (hn : l.length = n) : (minusL l s).length ≤ 1 + 2 * (n + 1) := by
  have h := made_length ((endsL (l ++ [s])).map fun e => (e, anyL l e && !(goneL s e))) none
  have h2 := ends_length (l ++ [s]) [[]]
  simp at h
  unfold minusL
  have h3 : (endsL (l ++ [s])).length ≤ 1 + 2 * (l ++ [s]).length := by unfold endsL; simpa using h2
  simp only [List.length_append, List.length_singleton] at h3
  omega

set_option maxRecDepth 100000 in
set_option maxHeartbeats 4000000 in
theorem unions_any (G : Good) (l : List Sp) (A : Option Addr) (n cap : Nat) (w : World) (hn : l.length = n) (hr : RowAt w A (spC l)) : Calls Try.prog 6 #[.slice A n cap] w (Laws w) := by
  obtain ⟨i0, hi0, hz0, hz1, hz2⟩ := info_parts infoS
  have Hn := Lib.hid hn
  have Hr := Lib.hid hr
  have Hnil : Hid (∀ W, RowAt W none (strC [])) := Lib.hid (fun W j v hj => by simp [strC] at hj)
  have HG := Lib.hid G
  clear hn hr G
  go_enter Try.func6, Try.ntmps6
  go_wp2_with fail
  refine (awake_any HG.out w).mono ?_
  rintro e w1 ⟨rfl, hb1⟩
  have Hb1 := Lib.hid hb1
  have Hr1 := Lib.hid (Hr.out.below hb1 (Nat.le_refl _))
  clear hb1
  go_wp2_with fail
  refine (great_any l [] A none n 0 cap 0 w1 Hn.out rfl Hr1.out (Hnil.out _) (by omega)).mono ?_
  rintro e w2 ⟨hg, hb2⟩
  have Hb2 := Lib.hid (Hb1.out.trans (hb2.mono Hb1.out.size))
  have Hr2 := Lib.hid (Hr1.out.below hb2 (Nat.le_refl _))
  clear hb2
  rcases hg with ⟨rfl, _⟩ | ⟨rfl, hsm⟩
  · go_wp2
    go_ret
    exact ⟨rfl, Hb2.out⟩
  · have hn40 : n ≤ 40 := by rw [← Hn.out]; exact hsm.1
    have Hsl : Hid ((spC l).length = n * 2) := Lib.hid (by rw [spC_length, Hn.out])
    have Hul : Hid ((unionL l).length ≤ 1 + 2 * n) := Lib.hid (union_length l n Hn.out)
    clear hsm
    go_wp2_with (at_builtin; refine wpList_append_row rfl (.tmp 9) (.tmp 10) 26 rfl w2.heap.size 23 i0 _ 2 32 Try.underlying26 hi0 hz0 hz1 hz2 rfl (by omega) _ rfl (own_none w2 23 2) A n cap (spC l) rfl (Hr2.out.below ((Below.refl _ _).alloc (Nat.le_refl _) _) (Nat.le_refl _)) Hsl.out (spC_one l) (by omega) (by omega) w2 ((Below.refl _ _).alloc (Nat.le_refl _) _) (by simp) ?_; intro g3 cap3 w3 hown3 hb3)
    have Hw3 : Hid (RowAt w3 (some ⟨g3, 0, none⟩) (spC l)) := Lib.hid (own_row' hown3)
    have Hb3 := Lib.hid (Hb2.out.trans (hb3.mono Hb2.out.size))
    have Hr3 := Lib.hid (Hr2.out.below hb3 (Nat.le_refl _))
    clear hown3 hb3
    go_wp2_with fail
    refine (HG.out.union l A n cap w3 Hn.out Hr3.out (by omega)).mono ?_
    rintro e w4 ⟨⟨A4, n4, cap4, rfl, hn4, hr4⟩, hb4⟩
    have Hn4 := Lib.hid hn4
    have Hr4 := Lib.hid hr4
    have Hb4 := Lib.hid (Hb3.out.trans (hb4.mono Hb3.out.size))
    have Hl4 := Lib.hid (Hr3.out.below hb4 (Nat.le_refl _))
    have Hw4 := Lib.hid (Hw3.out.below hb4 (Nat.le_refl _))
    have hn4le : n4 ≤ 100 := by have := Hul.out; omega
    clear hn4 hr4 hb4
    go_wp2_with fail
    refine (refunion_any l A n cap w4 Hn.out Hl4.out (by omega)).mono ?_
    rintro e w5 ⟨v5, rfl, ho5, hl5, hb5⟩
    obtain ⟨A5, cap5, rfl, hr5⟩ := own_row ho5
    have Hr5 := Lib.hid hr5
    have Hb5 := Lib.hid (Hb4.out.trans (hb5.mono Hb4.out.size))
    have Hu5 := Lib.hid (Hr4.out.below hb5 (Nat.le_refl _))
    have Hl5 := Lib.hid (Hl4.out.below hb5 (Nat.le_refl _))
    have Hw5 := Lib.hid (Hw4.out.below hb5 (Nat.le_refl _))
    rw [Hn4.out]
    clear ho5 hl5 hb5 hr5
    go_wp2_with fail
    refine (refsame_any (unionL l) (unionL l) A4 A5 n4 n4 cap4 cap5 w5 Hn4.out Hn4.out Hu5.out Hr5.out (by omega)).mono ?_
    rintro e w6 ⟨rfl, hb6⟩
    rw [decide_eq_true rfl]
    have Hb6 := Lib.hid (Hb5.out.trans (hb6.mono Hb5.out.size))
    have Hu6 := Lib.hid (Hu5.out.below hb6 (Nat.le_refl _))
    have Hl6 := Lib.hid (Hl5.out.below hb6 (Nat.le_refl _))
    have Hw6 := Lib.hid (Hw5.out.below hb6 (Nat.le_refl _))
    clear hb6
    go_wp2_with fail
    refine (HG.out.union (unionL l) A4 n4 cap4 w6 Hn4.out Hu6.out (by omega)).mono ?_
    rw [union_twice]
    rintro e w7 ⟨⟨A7, n7, cap7, rfl, hn7, hr7⟩, hb7⟩
    have Hr7 := Lib.hid hr7
    have Hn7 := Lib.hid hn7
    have Hb7 := Lib.hid (Hb6.out.trans (hb7.mono Hb6.out.size))
    have Hu7 := Lib.hid (Hu6.out.below hb7 (Nat.le_refl _))
    have Hl7 := Lib.hid (Hl6.out.below hb7 (Nat.le_refl _))
    have Hw7 := Lib.hid (Hw6.out.below hb7 (Nat.le_refl _))
    have hn7le : n7 ≤ 100 := by have := Hul.out; omega
    clear hb7 hr7 hn7
    go_wp2_with fail
    refine (refsame_any (unionL l) (unionL l) A7 A4 n7 n4 cap7 cap4 w7 Hn7.out Hn4.out Hr7.out Hu7.out (by omega)).mono ?_
    rintro e w8 ⟨rfl, hb8⟩
    rw [decide_eq_true rfl]
    have Hb8 := Lib.hid (Hb7.out.trans (hb8.mono Hb7.out.size))
    have Hl8 := Lib.hid (Hl7.out.below hb8 (Nat.le_refl _))
    have Hw8 := Lib.hid (Hw7.out.below hb8 (Nat.le_refl _))
    clear hb8
    go_wp2_with fail
    refine (refsame_any l l A (some ⟨g3, 0, none⟩) n n cap cap3 w8 Hn.out Hn.out Hl8.out Hw8.out (by omega)).mono ?_
    rintro e w9 ⟨rfl, hb9⟩
    rw [decide_eq_true rfl]
    have Hb9 := Lib.hid (Hb8.out.trans (hb9.mono Hb8.out.size))
    clear hb9
    go_wp2
    go_ret
    exact ⟨rfl, Hb9.out⟩
end Go.Proofs.Ytfjgikcbngfhmaa
