/-
  A REGION THAT DRAWS ITS ORDER: quiet operations first (reads; calls that lay memory and turn none), all of which the rest waits for; the rest in whatever order is left to it. Over whatever program.
-/
import Derived.Test.YtfdnpmanepoblaaQuietTail
namespace Go.Proofs.Ytfdnpmanepoblaa
open Go Go.RowKit
section
variable {P : Program} {ops : Array Oper} {md : Region.Mode} {C : World → Prop}

/-- Each of those from c on of the first n but the last is waited for by a later one of them; all behind them wait for the last, or for one behind them. -/
def headB (md : Region.Mode) (ops : Array Oper) (c n : Nat) : Bool :=
  decide (c < n) && ((List.range (n - 1)).all fun i => decide (i < c) || (List.range n).any fun j => decide (i < j) && Region.waitsFor md ops j i) &&
  ((List.range ops.size).all fun t => decide (t < n) || Region.waitsFor md ops t (n - 1) || (List.range t).any fun j => decide (n ≤ j) && Region.waitsFor md ops t j)

theorem last_open {c n : Nat} {listed : Array Bool} (h : headB md ops c n = true) (hn : n ≤ ops.size) (inv : HeadInv md ops n listed) :
    ∀ (d i : Nat), n - i = d → c ≤ i → i < n → listed.getD i true = false → listed.getD (n - 1) true = false := by
  intro d
  induction d using Nat.strongRecOn with
  | _ d ih =>
    intro i hd hci hi hun
    by_cases hl : i = n - 1
    · rw [← hl]; exact hun
    · simp only [headB, Bool.and_eq_true] at h
      have h1 := List.all_eq_true.1 h.1.2 i (List.mem_range.2 (by omega))
      simp only [Bool.or_eq_true, decide_eq_true_eq] at h1
      replace h1 := h1.resolve_left (by omega)
      obtain ⟨j, hj, hj2⟩ := List.any_eq_true.1 h1
      simp only [Bool.and_eq_true, decide_eq_true_eq] at hj2
      have hjn := List.mem_range.1 hj
      obtain ⟨oj, hoj, e, he, hb, hon⟩ := Region.waitsFor_spec hj2.2
      cases hlj : listed.getD j false with
      | true =>
        have h2 := inv.closed j oj hoj hlj e he hb
        rw [hon, getD_both hun] at h2
        cases h2
      | false =>
        exact ih (n - j) (by omega) j rfl (by omega) hjn (getD_in (by rw [inv.size]; omega) hlj)
theorem tail_open {c n : Nat} {listed : Array Bool} (h : headB md ops c n = true) (hn : n ≤ ops.size) (inv : HeadInv md ops n listed) (i : Nat) (hci : c ≤ i) (hi : i < n) (hun : listed.getD i true = false) (t : Nat) (ht : n ≤ t) :
    t ∉ Region.ready md ops listed := by
  intro hr
  have hlast := last_open h hn inv _ i rfl hci hi hun
  obtain ⟨_, ot, hot, hall⟩ := mem_ready.1 hr
  have htlt : t < ops.size := (Array.getElem?_eq_some_iff.1 hot).1
  simp only [headB, Bool.and_eq_true] at h
  have h1 := List.all_eq_true.1 h.2 t (List.mem_range.2 htlt)
  simp only [Bool.or_eq_true, decide_eq_true_eq] at h1
  rcases h1 with (h1 | h1) | h1
  · omega
  · obtain ⟨o', ho', e, he, hb, hon⟩ := Region.waitsFor_spec h1
    have : o' = ot := Option.some.inj (ho'.symm.trans hot)
    subst this
    have h2 := hall e he hb
    rw [hon, getD_both hlast] at h2
    cases h2
  · obtain ⟨j, hj, hj2⟩ := List.any_eq_true.1 h1
    simp only [Bool.and_eq_true, decide_eq_true_eq] at hj2
    obtain ⟨o', ho', e, he, hb, hon⟩ := Region.waitsFor_spec hj2.2
    have : o' = ot := Option.some.inj (ho'.symm.trans hot)
    subst this
    have h2 := hall e he hb
    have hjt := List.mem_range.1 hj
    rw [hon, getD_both (inv.tail j hj2.1 (by omega))] at h2
    cases h2
theorem headQ_first2 {c n i : Nat} {oi : Oper} {v : Value} {L : Array Bool → Act → Prop} (hi : ops[i]? = some oi) (hsel : ∀ (j : Nat) (o : Oper) cs b, ops[j]? = some o → o.op ≠ .select cs b)
    (hB : headB md ops c n = true) (hn : n ≤ ops.size) (hci : c ≤ i) (hin : i < n)
    (hend : ∀ listed a, L listed a → ∀ j ∈ Region.ready md ops listed, n ≤ j) (f : Nat) :
    ∀ (listed : Array Bool) (a : Act), HeadInv md ops n listed →
      (∀ j oj, ops[j]? = some oj → j ≠ i → listed.getD j true = false → (∀ e ∈ oj.after, Region.binds md e = true → e.on ≠ i) → oi.apart ops oj = true) →
      i ∈ Region.ready md ops listed → YieldsIn P ops C oi v a →
      headQ P md ops C n L f (listed.setIfInBounds i true) (a.put oi.dst v) → headQ P md ops C n L (f + 1) listed a := by
  induction f with
  | zero =>
    intro listed a inv _ hr hy H
    refine ⟨fun h => (by rw [h] at hr; cases hr), fun j hj => ?_⟩
    have hjn : j < n := Nat.lt_of_not_le fun h => tail_open hB hn inv i hci hin (mem_ready.1 hr).1 j h hj
    refine ⟨hjn, ?_⟩
    by_cases e : j = i
    · subst e; exact hy.qOp hi H
    · exact absurd (hend _ _ H j (ready_mono hj e)) (by omega)
  | succ f ih =>
    intro listed a inv apart hr hy H
    refine ⟨fun h => (by rw [h] at hr; cases hr), fun j hj => ?_⟩
    have hjn : j < n := Nat.lt_of_not_le fun h => tail_open hB hn inv i hci hin (mem_ready.1 hr).1 j h hj
    refine ⟨hjn, ?_⟩
    by_cases e : j = i
    · subst e; exact hy.qOp hi H
    · obtain ⟨hun, oj, hoj, hall⟩ := mem_ready.1 hj
      have free : ∀ e ∈ oj.after, Region.binds md e = true → e.on ≠ i := fun e he hb heq => by
        have h1 := hall e he hb
        rw [heq, getD_both (mem_ready.1 hr).1] at h1
        cases h1
      have step := qOp_put hoj (apart j oj hoj e hun free) (fun cs b => hsel i oi cs b hi) (fun cs b => hsel j oj cs b hoj) hy (H.2 j (ready_mono hj e)).2
      refine qOp_mono (fun a' h3 => ih (listed.setIfInBounds j true) a' (inv.set hj hjn) (fun k ok hk hki hk2 hno => apart k ok hk hki ?_ hno) (ready_mono hr (Ne.symm e)) h3.1 ?_) step
      · by_cases hjk : j = k
        · subst hjk; exact hun
        · rw [getD_set_ne true hjk] at hk2; exact hk2
      · rw [Array.setIfInBounds_comm _ _ e]; exact h3.2

/-- The first so many taken in the text's order: each may come up, and is free; then only what lies behind them may. -/
def lexFirst (md : Region.Mode) (ops : Array Oper) (n : Nat) : Nat → Nat → Array Bool → Bool
  | 0, _, listed => (Region.ready md ops listed).all fun j => decide (n ≤ j)
  | f + 1, k, listed => (Region.ready md ops listed).contains k && Region.free md ops listed k && lexFirst md ops n f (k + 1) (listed.setIfInBounds k true)
def marks : Nat → Nat → Array Bool → Array Bool
  | 0, _, listed => listed
  | f + 1, k, listed => marks f (k + 1) (listed.setIfInBounds k true)
theorem headQ_lex2 {c n : Nat} {R : Act → Prop} (hsel : Region.noSelect ops = true) (hB : headB md ops c n = true) (hn : n ≤ ops.size) :
    ∀ (l : List Oper) (k : Nat) (listed : Array Bool) (a : Act), c ≤ k → (∀ j, j < l.length → l[j]? = ops[k + j]?) → k + l.length = n → HeadInv md ops n listed →
    lexFirst md ops n l.length k listed = true → wpQuiet P ops C R l a →
    headQ P md ops C n (fun listed' a' => (listed' = marks l.length k listed ∧ ∀ j ∈ Region.ready md ops listed', n ≤ j) ∧ R a') l.length listed a
  | [], k, listed, a, _, _, hk, _, hL, h => by
    refine ⟨⟨rfl, fun j hj => ?_⟩, h⟩
    have := List.all_eq_true.1 hL j hj
    simpa using this
  | o :: l, k, listed, a, hck, hl, hk, inv, hL, h => by
    have h0 : ops[k]? = some o := by simpa using (hl 0 (by simp)).symm
    simp only [List.length_cons, lexFirst, Bool.and_eq_true] at hL
    obtain ⟨⟨hr, hf⟩, hL'⟩ := hL
    have hkn : k < n := by simp only [List.length_cons] at hk; omega
    have hr' : k ∈ Region.ready md ops listed := by simpa using hr
    obtain ⟨v, hy, hK⟩ := yieldsIn_of_qOp (C := C) (K := wpQuiet P ops C R l) h0 (by unfold qOp; simp only [h0]; exact h)
    refine headQ_first2 h0 (Region.noSelect_spec hsel) hB hn hck hkn (fun _ _ hL => hL.1.2) l.length listed a inv (Region.free_spec h0 hf) hr' hy ?_
    exact headQ_lex2 hsel hB hn l (k + 1) _ _ (by omega) (fun j hj => by have := hl (j + 1) (by simp; omega); simpa [Nat.add_assoc, Nat.add_comm 1 j] using this) (by simp only [List.length_cons] at hk; omega) (inv.set hr' hkn) hL' hK
/-- The first so many may come up one behind the other. -/
def lexPre (md : Region.Mode) (ops : Array Oper) : Nat → Nat → Array Bool → Bool
  | 0, _, _ => true
  | f + 1, k, listed => (Region.ready md ops listed).contains k && lexPre md ops f (k + 1) (listed.setIfInBounds k true)
theorem pre_inv {n : Nat} : ∀ (f k : Nat) (listed : Array Bool), k + f ≤ n → HeadInv md ops n listed → lexPre md ops f k listed = true → HeadInv md ops n (marks f k listed)
  | 0, _, _, _, inv, _ => inv
  | f + 1, k, listed, hk, inv, h => by
    simp only [lexPre, Bool.and_eq_true] at h
    exact pre_inv f (k + 1) _ (by omega) (inv.set (by simpa using h.1) (by omega)) h.2
end
/-- The check of a region whose first c have come up, and whose next go first. -/
def firstB (ops : Array Oper) (c n : Nat) : Bool :=
  Region.noSelect ops && decide (n ≤ ops.size) && headB .any ops c n && lexPre .any ops c 0 (Array.replicate ops.size false) && lexFirst .any ops n (n - c) c (marks c 0 (Array.replicate ops.size false))
theorem marks_add : ∀ (f g k : Nat) (listed : Array Bool), marks g (k + f) (marks f k listed) = marks (f + g) k listed
  | 0, g, k, listed => by simp [marks]
  | f + 1, g, k, listed => by
    rw [show f + 1 + g = (f + g) + 1 by omega]
    show marks g (k + (f + 1)) (marks f (k + 1) _) = marks (f + g) (k + 1) _
    rw [← marks_add f g (k + 1), show k + (f + 1) = k + 1 + f by omega]
/-- OPERATIONS IN WHATEVER ORDER: the first c have come up; those up to n quiet, walked in the text's order; what is left in whatever order, from whatever world in which all that lay there lies as it lay. -/
theorem wpAny_below_head {P : Program} {Q : Exit → Act → World → Prop} {a : Act} {w : World} {l : List Oper} (c n : Nat) (hB : firstB l.toArray c n = true)
    (h : wpQuiet P l.toArray (fun w' => ∃ p : Regrown, w' = Sort.grow (redrawn w p.d) p.os) (fun a' => ∀ w', Below w.heap.size w w' → wpAny P .any l.toArray Q (l.length - n) (marks n 0 (Array.replicate l.length false)) a' w') ((l.take n).drop c) a) :
    wpAny P .any l.toArray Q (l.length - c) (marks c 0 (Array.replicate l.length false)) a w := by
  simp only [firstB, Bool.and_eq_true, decide_eq_true_eq] at hB
  obtain ⟨⟨⟨⟨hsel, hn⟩, hh⟩, hpre⟩, hlex⟩ := hB
  have hcn : c < n := by simp only [headB, Bool.and_eq_true, decide_eq_true_eq] at hh; exact hh.1.1
  have hn' : n ≤ l.length := by simpa using hn
  have htl : ((l.take n).drop c).length = n - c := by simp; omega
  have inv0 : HeadInv .any l.toArray n (Array.replicate l.toArray.size false) :=
    ⟨by simp, fun j oj _ hl => (by rw [getD_replicate_false] at hl; cases hl), fun t _ ht => getD_in (by simpa using ht) (getD_replicate_false _ _)⟩
  have inv := pre_inv c 0 _ (by omega) inv0 hpre
  have H := headQ_lex2 (C := fun w' => ∃ p : Regrown, w' = Sort.grow (redrawn w p.d) p.os) (md := .any) hsel hh hn ((l.take n).drop c) c _ a (Nat.le_refl _) (fun j hj => by
    have hj' : c + j < n := by rw [htl] at hj; omega
    simp [List.getElem?_drop, hj']) (by rw [htl]; omega) inv (by rw [htl]; exact hlex) h
  have fin := any_of_headQ (Q := Q) (g := l.toArray.size - n) (fun listed a' w' hw' hL => by
    obtain ⟨⟨rfl, _⟩, hR⟩ := hL
    obtain ⟨p, rfl⟩ := hw'
    have := hR _ (below_regrown w p.d p.os)
    have e := marks_add c (n - c) 0 (Array.replicate l.toArray.size false)
    rw [Nat.zero_add, show c + (n - c) = n by omega] at e
    rw [htl, e]
    simpa using this) _ _ _ w ⟨⟨w.drawn, #[]⟩, by rw [Sort.grow_empty]; rfl⟩ H
  rw [htl, show n - c + (l.toArray.size - n) = l.length - c by simp; omega] at fin
  simpa using fin
theorem wpQuiet_mono {P : Program} {ops : Array Oper} {C : World → Prop} {R R' : Act → Prop} (hR : ∀ a, R a → R' a) : ∀ (l : List Oper) (a : Act), wpQuiet P ops C R l a → wpQuiet P ops C R' l a
  | [], a, h => hR a h
  | o :: l, a, h => by
    unfold wpQuiet at h ⊢
    split
    · rename_i hw
      rw [if_pos hw] at h
      exact Oper.quiet_mono (fun a' h' => wpQuiet_mono hR l a' h') h
    · rename_i hw
      rw [if_neg hw] at h
      exact wpQuiet_mono hR l _ h
/-- A REGION THAT DRAWS: the first n operations quiet, walked in the text's order; what is left in whatever order, from whatever world in which all that lay there lies as it lay. -/
theorem wp_region_below_head {P : Program} {id : Nat} {Q : Exit → Act → World → Prop} {a : Act} {w : World} {l : List Oper} (n : Nat) (hm : P.follows .mixedOrders = true) (hB : firstB l.toArray 0 n = true)
    (h : wpQuiet P l.toArray (fun w' => ∃ p : Regrown, w' = Sort.grow (redrawn w p.d) p.os) (fun a' => ∀ w', Below w.heap.size w w' → wpAny P .any l.toArray Q (l.length - n) (marks n 0 (Array.replicate l.length false)) a' w') (l.take n) a) :
    (Code.region id l.toArray true).wp P Q a w := by
  refine wp_region_any hm ?_
  have e : ∀ w', Below { w with drawn := w.drawn + 1 }.heap.size { w with drawn := w.drawn + 1 } w' → Below w.heap.size w w' := fun w' hb => ⟨hb.os, hb.tape, hb.output, hb.size, hb.block⟩
  have hq : wpQuiet P l.toArray (fun w' => ∃ p : Regrown, w' = Sort.grow (redrawn { w with drawn := w.drawn + 1 } p.d) p.os) (fun a' => ∀ w', Below { w with drawn := w.drawn + 1 }.heap.size { w with drawn := w.drawn + 1 } w' → wpAny P .any l.toArray Q (l.length - n) (marks n 0 (Array.replicate l.length false)) a' w') (l.take n) a :=
    wpQuiet_mono (fun a' H w' hb => H w' (e w' hb)) (l.take n) a h
  have := wpAny_below_head (P := P) (Q := Q) (a := a) (w := { w with drawn := w.drawn + 1 }) 0 n hB hq
  simpa [marks] using this
/-- The last operations of a region, whose order is forced. -/
theorem wpAny_rest {P : Program} {md : Region.Mode} {l : List Oper} {Q : Exit → Act → World → Prop} {listed : Array Bool} {a : Act} {w : World} (k : Nat)
    (hB : Region.seqB md l.toArray (l.length - k) k listed = true) (h : wpList P l.toArray Q (l.drop k) a w) : wpAny P md l.toArray Q (l.length - k) listed a w := by
  have := wpAny_of_seq (P := P) (md := md) (ops := l.toArray) (Q' := Q) (l.drop k) k listed a w (fun j => by simp [List.getElem?_drop]) (by simpa using hB) h
  simpa using this
/-- The last operation of a region. -/
theorem wpAny_last {P : Program} {md : Region.Mode} {l : List Oper} {Q : Exit → Act → World → Prop} {listed : Array Bool} {a : Act} {w : World} (k : Nat) (o : Oper) (ho : l[k]? = some o) (hk : l.length = k + 1)
    (hB : Region.seqB md l.toArray 1 k listed = true) (h : wpList P l.toArray Q [o] a w) : wpAny P md l.toArray Q 1 listed a w := by
  refine wpAny_of_seq [o] k listed a w (fun j => ?_) hB h
  cases j with
  | zero => simpa using ho.symm
  | succ j => simp; omega
end Go.Proofs.Ytfdnpmanepoblaa
