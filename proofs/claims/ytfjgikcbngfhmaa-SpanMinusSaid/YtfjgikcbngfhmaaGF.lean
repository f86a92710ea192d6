/-
  slices.Clone, slices.DeleteFunc and slices.SortFunc as Union calls them.
-/
import Derived.Test.YtfjgikcbngfhmaaGE
import Derived.Test.YtfjgikcbngfhmaaSQ
namespace Go.Proofs.Ytfjgikcbngfhmaa
open Go.RowKit Go.Shelf

/-- What the copy leaves. -/
def CloRet (l : List Sp) (w : World) (e : Ending) (w' : World) : Prop :=
  (∃ v, e = .returned v ∧ w'.ownsRow w.heap.size 23 2 v l.length (spC l) ∧ (v = .slice none 0 0 ∨ ∃ g cap, v = .slice (some ⟨g, 0, none⟩) l.length cap)) ∧ Below w.heap.size w w'
set_option maxRecDepth 100000 in
set_option maxHeartbeats 1000000 in
theorem clone_any (l : List Sp) (A : Option Addr) (n cap : Nat) (w : World) (hn : l.length = n) (hr : RowAt w A (spC l)) (hn2 : n ≤ 1000) : Calls Try.prog 32 #[.slice A n cap] w (CloRet l w) := by
  cases A with
  | none =>
    have hl : l = [] := by
      cases l with
      | nil => rfl
      | cons s l => obtain ⟨_, _, h, _⟩ := hr 0 _ rfl; cases h
    subst hl
    obtain rfl : n = 0 := by simpa using hn.symm
    have q26 : ∀ (w : World) (a : Option Addr) (n c n' c' : Nat), (binOp .eql 26 (.slice a n c) (.slice none n' c')).run Try.prog w = .ok (.bool a.isNone) w := fun w a n c n' c' => Lib.run_eql_slice_nil w _ _ a n c n' c' Try.underlying26
    clear hr hn
    go_enter Try.func32, Try.ntmps32
    go_wp2
    go_ret
    exact ⟨⟨_, rfl, World.ownsRow_nil _ _ _ _, .inl rfl⟩, Below.refl _ _⟩
  | some A =>
    obtain ⟨i0, hi0, hz0, hz1, hz2⟩ := info_parts infoS
    have q26 : ∀ (w : World) (a : Option Addr) (n c n' c' : Nat), (binOp .eql 26 (.slice a n c) (.slice none n' c')).run Try.prog w = .ok (.bool a.isNone) w := fun w a n c n' c' => Lib.run_eql_slice_nil w _ _ a n c n' c' Try.underlying26
    have Hn := Lib.hid hn
    have Hr := Lib.hid hr
    have Hown := Lib.hid (own_none w 23 2)
    have Hrow : Hid (RowAt (w.alloc (.cells #[] 23)) (some A) (spC l)) := Lib.hid (hr.below ((Below.refl w.heap.size w).alloc (Nat.le_refl _) _) (Nat.le_refl _))
    have Hal := Lib.hid ((Below.refl w.heap.size w).alloc (Nat.le_refl _) (.cells #[] 23))
    clear hr hn
    go_enter Try.func32, Try.ntmps32
    go_wp2_with (at_builtin; go_loud (refine wpList_behind rfl (.tmp 5) (.tmp 6) 26 rfl w.heap.size 23 i0 _ 2 32 Try.underlying26 hi0 hz0 hz1 hz2 rfl (by omega) (by omega) w.heap.size 0 0 (Nat.le_refl _) [] rfl Hown.out (some A) n cap (spC l) rfl Hrow.out (by rw [spC_length, Hn.out]) (spC_one l) (by omega) w Hal.out Hal.out.size ?_); intro g cap2 w2 hown2 hb2; rw [Nat.zero_add] at hown2)
    go_ret
    refine ⟨⟨_, rfl, ?_, .inr ⟨g, cap2, ?_⟩⟩, hb2⟩
    · rw [Hn.out]; simpa using hown2
    · rw [Hn.out]; simp

/-- The copy of nothing has nothing deleted. -/
theorem index_none (cap : Nat) (fv : Value) (w : World) : Calls Try.prog 42 #[.slice none 0 cap, fv] w fun e w' => e = .returned (.int .i64 (-1)) ∧ w' = w := by
  go_enter Try.func42, Try.ntmps42
  go_wp2
  refine wp_loop_rounds 1 ?_
  rw [rounds_succ]
  go_wp2
  go_ret
  exact ⟨rfl, rfl⟩
theorem delete_none (cap : Nat) (fv : Value) (w : World) : Calls Try.prog 31 #[.slice none 0 cap, fv] w fun e w' => e = .returned (.slice none 0 cap) ∧ w' = w := by
  go_enter Try.func31, Try.ntmps31
  go_wp2_with (go_at_call 42; refine (index_none _ _ _).mono ?_; rintro e w' ⟨rfl, rfl⟩)
  go_ret
  exact ⟨rfl, rfl⟩
/-- Nothing is sorted. -/
theorem insertion_none (cap : Nat) (fv : Value) (w : World) : Calls Try.prog 46 #[.slice none 0 cap, .int .i64 0, .int .i64 0, fv] w fun e w' => e = .returned (.tuple #[]) ∧ w' = w := by
  go_enter Try.func46, Try.ntmps46
  go_wp2
  refine wp_loop_rounds 1 ?_
  rw [rounds_succ]
  go_wp2
  go_end0
  exact ⟨rfl, rfl⟩
set_option maxHeartbeats 1000000 in
theorem pdq_none (cap : Nat) (lim : Int) (fv : Value) (w : World) : Calls Try.prog 43 #[.slice none 0 cap, .int .i64 0, .int .i64 0, .int .i64 lim, fv] w fun e w' => e = .returned (.tuple #[]) ∧ w' = w := by
  go_enter Try.func43, Try.ntmps43
  go_wp2
  refine wp_loop_rounds 1 ?_
  rw [rounds_succ]
  go_wp2_with (go_at_call 46; refine (insertion_none _ _ _).mono ?_; rintro e w' ⟨rfl, rfl⟩)
  (try simp only [Exit.inBlock, Exit.then]); refine bodyPost_ret (results_none rfl _ _ _) rfl ?_
  exact ⟨rfl, rfl⟩
theorem sort_none (cap : Nat) (fv : Value) (w : World) : Calls Try.prog 34 #[.slice none 0 cap, fv] w fun e w' => e = .returned (.tuple #[]) ∧ w' = w := by
  have hl : ∀ W, Calls Try.prog 44 #[.int .u64 0] W fun e w' => e = .returned (.int .i64 (Lib.bitLen 0 : Nat)) ∧ w' = W := fun W =>
    Any.bits_Len (SlLaysF0.n15.bits (P := Try.prog) (ρ := rhoS) { soLays with }) 0 W (by omega) (by omega)
  generalize (Lib.bitLen 0 : Nat) = z at hl
  have Hl := Lib.hid hl
  clear hl
  go_enter Try.func34, Try.ntmps34
  go_wp2_with (first | (go_at_call 44; refine (Hl.out _).mono ?_; rintro e w' ⟨rfl, rfl⟩) | (go_at_call 43; refine (pdq_none _ _ _ _).mono ?_; rintro e w' ⟨rfl, rfl⟩))
  go_end0
  exact ⟨rfl, rfl⟩

/-- A row of spans, as the sort sees it. -/
theorem flat_spans : ∀ l : List Sp, Go.Sort.flatK encS 2 l.toArray = (spC l).toArray := by
  intro l
  refine Go.Sort.ext_get! (by simp [spC_length]) fun t ht => ?_
  have ht' : t < l.length * 2 := by simpa using ht
  rw [Go.Sort.get_flatK _ _ _ t (by simpa using ht')]
  have hq : t / 2 < l.length := by omega
  have hs : l[t / 2]? = some l[t / 2] := List.getElem?_eq_getElem hq
  obtain ⟨c0, c1⟩ := spC_at l (t / 2) _ hs
  have e1 : (l.toArray[t / 2]!) = l[t / 2] := by rw [getElem!_pos l.toArray (t / 2) (by simpa using hq)]; simp
  have hl : t < (spC l).toArray.size := by simpa [spC_length] using ht'
  rw [e1, getElem!_pos (spC l).toArray t hl]
  have hsome : (spC l)[t]? = some ((spC l).toArray[t]'hl) := by simp
  generalize ((spC l).toArray[t]'hl) = x at hsome ⊢
  have hm : t % 2 = 0 ∨ t % 2 = 1 := by omega
  rcases hm with h | h
  · rw [show t / 2 * 2 = t by omega, hsome] at c0
    rw [h, Option.some.inj c0]
    rfl
  · rw [show t / 2 * 2 + 1 = t by omega, hsome] at c1
    rw [h, Option.some.inj c1]
    rfl
theorem holdsK_of {w : World} {g : Nat} {l : List Sp} {rest : List Value} (h : Holds w g 23 (spC l ++ rest)) : Go.Sort.HoldsK encS 2 w g 0 l.toArray := by
  unfold Go.Sort.HoldsK
  rw [flat_spans]
  intro j hj
  have hj' : j < (spC l).length := by simpa using hj
  refine ⟨?_, ?_⟩
  · rw [Nat.zero_add]
    refine Holds.cell h ?_
    rw [List.getElem?_append_left hj', getElem!_pos (spC l).toArray j hj]
    simp
  · rw [Nat.zero_add]; exact Holds.frozen h j
theorem row_of_holdsK {w : World} {g : Nat} {l : List Sp} (h : Go.Sort.HoldsK encS 2 w g 0 l.toArray) (hg : g < w.heap.size) : RowAt w (some ⟨g, 0, none⟩) (spC l) := by
  unfold Go.Sort.HoldsK at h
  rw [flat_spans] at h
  intro j v hv
  obtain ⟨hj, e⟩ := List.getElem?_eq_some_iff.1 hv
  have := (h j (by simpa using hj)).1
  rw [getElem!_pos (spC l).toArray j (by simpa using hj)] at this
  refine ⟨g, 0, rfl, hg, ?_⟩
  rw [this]
  simpa using e
theorem below_sorted (B : Nat) (w : World) (g n : Nat) (d : Array Sp) (os : Array Obj) (hB : B ≤ g) (hg : g < w.heap.size) : Below B w (sortWorldK encS 2 w g 0 n d os) := by
  unfold sortWorldK Go.Sort.putRowK Go.Sort.putRow
  refine ⟨rfl, rfl, rfl, ?_, ?_⟩
  · simp [Go.Sort.grow, Go.Sort.mapBlock]
  · intro k hk
    rw [Go.Sort.heap_grow_old _ _ (by simp [Go.Sort.mapBlock]; omega)]
    simp only [Go.Sort.mapBlock, Go.Sort.heap_ahead]
    rw [Array.getElem?_modify, if_neg (by omega)]

/-- What the sort leaves. -/
def SoRet (B g : Nat) (l : List Sp) (w : World) (e : Ending) (w' : World) : Prop :=
  e = .returned (.tuple #[]) ∧ (∃ S : List Sp, S.Perm l ∧ S.Pairwise (fun x y => ltL y.1 x.1 = false) ∧ RowAt w' (some ⟨g, 0, none⟩) (spC S)) ∧ Below B w w'
theorem sort_any (l : List Sp) (rest : List Value) (g n cap B : Nat) (w : World) (hn : l.length = n) (hr : Holds w g 23 (spC l ++ rest)) (hB : B ≤ g) (hn2 : n ≤ 1000) :
    Calls Try.prog 34 #[.slice (some ⟨g, 0, none⟩) n cap, .func (.func 35) #[] #[]] w (SoRet B g l w) := by
  subst hn
  have h := AnyQ.slices_SortFunc soLays 2 (by intro w; kernel_rfl) (by intro w; kernel_rfl) encS (fun _ => rfl) encS_one (fun x y : Sp => cmpL x.1 y.1) order_swo 35 #[] g 0 cap l.toArray w order_enters (order_lays _ _ _ _) (holdsK_of hr) hr.lt (by simp; omega)
  change Calls Try.prog 34 _ _ _ at h
  refine h.mono ?_
  rintro e w' ⟨he, d', m, os, hp, hs, rfl⟩
  refine ⟨he, ⟨d'.toList, ?_, ?_, ?_⟩, below_sorted B w g m d' os hB hr.lt⟩
  · have := hp.2.2
    have h1 := hp.1
    rw [Array.extract_eq_self_of_le (by rw [h1]; exact Nat.le_refl _), Array.extract_eq_self_of_le (Nat.le_refl _)] at this
    exact this
  · rw [List.pairwise_iff_getElem]
    intro i j hi hj hij
    have := hs i j (Nat.zero_le _) hij (by rw [← hp.1]; simpa using hj)
    rw [lt_order, getElem!_pos d' i (by simpa using hi), getElem!_pos d' j (by simpa using hj)] at this
    simpa using this
  · refine row_of_holdsK ?_ ?_
    · exact SWK.holds ⟨m, os, rfl⟩ hr.lt (holdsK_of hr) hp.1
    · exact Nat.lt_of_lt_of_le hr.lt (below_sorted 0 w g m d' os (Nat.zero_le _) hr.lt).size
end Go.Proofs.Ytfjgikcbngfhmaa
