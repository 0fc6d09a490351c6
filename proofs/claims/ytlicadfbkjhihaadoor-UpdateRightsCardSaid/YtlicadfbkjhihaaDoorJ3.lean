/-
  A REGION THAT DRAWS ITS ORDER: quiet operations first (reads; calls that lay memory and turn none), all of which the rest waits for; the rest in whatever order is left to it. Over whatever program.
-/
/-
  THE DIGEST OF TWO DIGESTS, OF ANY DOMAIN, where there is no log.
-/
/-
  WHAT digest's Two AND merkle's node RETURN, where there is no log.
-/
/-
  BYTES STORED INTO THE MIDDLE OF A BLOCK OF BYTES; a part of an array's value.
-/
/-
  A PART OF A ROW LOADED INSIDE A REGION THAT DRAWS ITS ORDER, as a step of the quiet walk. Over whatever program.
-/
/-
  LISTS OF DIGESTS IN MEMORY; WHAT merkle's standing RETURNS.
-/
/-
  EQUALITY OF ARRAYS AND STRUCTS BY VALUE, OF A VALUE WITH ITSELF. Over whatever program.
-/
/-
  == AND != OF TWO DIGESTS.
-/
/-
  WHAT merkle's Proves RETURNS.
-/
/-
  A NEW LIST OF DIGESTS, ALL NOUGHTS.
-/
/-
  WHAT merkle's above RETURNS: the nodes of each two neighbours.
-/
/-
  WHAT keys' above RETURNS, where there is no log.
-/
/-
  WHAT THE WORD OF ALL PUBLICS IS, where there is no log.
-/
/-
  WHAT lamport's Word RETURNS, where there is no log.
-/
/-
  WHAT lamport's Sign RETURNS, where there is no log.
-/
import Derived.Test.YtlicadfbkjhihaaDoorJ0
import Derived.Test.YtlicadfbkjhihaaDoorJ1
import Derived.Test.YtlicadfbkjhihaaDoorJ2
import Derived.Deep.MidRow
import Derived.Laws.StructEq
import Derived.DeepKeys
import Derived.WalkKit
namespace Go.Proofs.YtlicadfbkjhihaaDoor
open Go Go.RowKit
section
variable {P : Program} {ops : Array Oper} {md : Region.Mode} {C : World → Prop}

/-- Each of those from c on of the first n but the last is waited for by a later one of them; all behind them wait for the last, or for one behind them. -/
def headB (md : Region.Mode) (ops : Array Oper) (c n : Nat) : Bool :=
  decide (c < n) && ((List.range (n - 1)).all fun i => decide (i < c) || (List.range n).any fun j => decide (i < j) && Region.waitsFor md ops j i) &&
  ((List.range ops.size).all fun t => decide (t < n) || Region.waitsFor md ops t (n - 1) || (List.range t).any fun j => decide (n ≤ j) && Region.waitsFor md ops t j)

theorem last_open {c n : Nat} {listed : Array Bool} (h : headB md ops c n = true) (hn : n ≤ ops.size) (inv : HeadInv md ops n listed) :
    ∀ (d i : Nat), n - i = d → c ≤ i → i < n → listed.getD i true = false → listed.getD (n - 1) true = false := by
  intro d
  induction d using Nat.strongRecOn with
  | _ d ih =>
    intro i hd hci hi hun
    by_cases hl : i = n - 1
    · rw [← hl]; exact hun
    · simp only [headB, Bool.and_eq_true] at h
      have h1 := List.all_eq_true.1 h.1.2 i (List.mem_range.2 (by omega))
      simp only [Bool.or_eq_true, decide_eq_true_eq] at h1
      replace h1 := h1.resolve_left (by omega)
      obtain ⟨j, hj, hj2⟩ := List.any_eq_true.1 h1
      simp only [Bool.and_eq_true, decide_eq_true_eq] at hj2
      have hjn := List.mem_range.1 hj
      obtain ⟨oj, hoj, e, he, hb, hon⟩ := Region.waitsFor_spec hj2.2
      cases hlj : listed.getD j false with
      | true =>
        have h2 := inv.closed j oj hoj hlj e he hb
        rw [hon, getD_both hun] at h2
        cases h2
      | false =>
        exact ih (n - j) (by omega) j rfl (by omega) hjn (getD_in (by rw [inv.size]; omega) hlj)
theorem tail_open {c n : Nat} {listed : Array Bool} (h : headB md ops c n = true) (hn : n ≤ ops.size) (inv : HeadInv md ops n listed) (i : Nat) (hci : c ≤ i) (hi : i < n) (hun : listed.getD i true = false) (t : Nat) (ht : n ≤ t) :
    t ∉ Region.ready md ops listed := by
  intro hr
  have hlast := last_open h hn inv _ i rfl hci hi hun
  obtain ⟨_, ot, hot, hall⟩ := mem_ready.1 hr
  have htlt : t < ops.size := (Array.getElem?_eq_some_iff.1 hot).1
  simp only [headB, Bool.and_eq_true] at h
  have h1 := List.all_eq_true.1 h.2 t (List.mem_range.2 htlt)
  simp only [Bool.or_eq_true, decide_eq_true_eq] at h1
  rcases h1 with (h1 | h1) | h1
  · omega
  · obtain ⟨o', ho', e, he, hb, hon⟩ := Region.waitsFor_spec h1
    have : o' = ot := Option.some.inj (ho'.symm.trans hot)
    subst this
    have h2 := hall e he hb
    rw [hon, getD_both hlast] at h2
    cases h2
  · obtain ⟨j, hj, hj2⟩ := List.any_eq_true.1 h1
    simp only [Bool.and_eq_true, decide_eq_true_eq] at hj2
    obtain ⟨o', ho', e, he, hb, hon⟩ := Region.waitsFor_spec hj2.2
    have : o' = ot := Option.some.inj (ho'.symm.trans hot)
    subst this
    have h2 := hall e he hb
    have hjt := List.mem_range.1 hj
    rw [hon, getD_both (inv.tail j hj2.1 (by omega))] at h2
    cases h2
theorem headQ_first2 {c n i : Nat} {oi : Oper} {v : Value} {L : Array Bool → Act → Prop} (hi : ops[i]? = some oi) (hsel : ∀ (j : Nat) (o : Oper) cs b, ops[j]? = some o → o.op ≠ .select cs b)
    (hB : headB md ops c n = true) (hn : n ≤ ops.size) (hci : c ≤ i) (hin : i < n)
    (hend : ∀ listed a, L listed a → ∀ j ∈ Region.ready md ops listed, n ≤ j) (f : Nat) :
    ∀ (listed : Array Bool) (a : Act), HeadInv md ops n listed →
      (∀ j oj, ops[j]? = some oj → j ≠ i → listed.getD j true = false → (∀ e ∈ oj.after, Region.binds md e = true → e.on ≠ i) → oi.apart ops oj = true) →
      i ∈ Region.ready md ops listed → YieldsIn P ops C oi v a →
      headQ P md ops C n L f (listed.setIfInBounds i true) (a.put oi.dst v) → headQ P md ops C n L (f + 1) listed a := by
  induction f with
  | zero =>
    intro listed a inv _ hr hy H
    refine ⟨fun h => (by rw [h] at hr; cases hr), fun j hj => ?_⟩
    have hjn : j < n := Nat.lt_of_not_le fun h => tail_open hB hn inv i hci hin (mem_ready.1 hr).1 j h hj
    refine ⟨hjn, ?_⟩
    by_cases e : j = i
    · subst e; exact hy.qOp hi H
    · exact absurd (hend _ _ H j (ready_mono hj e)) (by omega)
  | succ f ih =>
    intro listed a inv apart hr hy H
    refine ⟨fun h => (by rw [h] at hr; cases hr), fun j hj => ?_⟩
    have hjn : j < n := Nat.lt_of_not_le fun h => tail_open hB hn inv i hci hin (mem_ready.1 hr).1 j h hj
    refine ⟨hjn, ?_⟩
    by_cases e : j = i
    · subst e; exact hy.qOp hi H
    · obtain ⟨hun, oj, hoj, hall⟩ := mem_ready.1 hj
      have free : ∀ e ∈ oj.after, Region.binds md e = true → e.on ≠ i := fun e he hb heq => by
        have h1 := hall e he hb
        rw [heq, getD_both (mem_ready.1 hr).1] at h1
        cases h1
      have step := qOp_put hoj (apart j oj hoj e hun free) (fun cs b => hsel i oi cs b hi) (fun cs b => hsel j oj cs b hoj) hy (H.2 j (ready_mono hj e)).2
      refine qOp_mono (fun a' h3 => ih (listed.setIfInBounds j true) a' (inv.set hj hjn) (fun k ok hk hki hk2 hno => apart k ok hk hki ?_ hno) (ready_mono hr (Ne.symm e)) h3.1 ?_) step
      · by_cases hjk : j = k
        · subst hjk; exact hun
        · rw [getD_set_ne true hjk] at hk2; exact hk2
      · rw [Array.setIfInBounds_comm _ _ e]; exact h3.2

/-- The first so many taken in the text's order: each may come up, and is free; then only what lies behind them may. -/
def lexFirst (md : Region.Mode) (ops : Array Oper) (n : Nat) : Nat → Nat → Array Bool → Bool
  | 0, _, listed => (Region.ready md ops listed).all fun j => decide (n ≤ j)
  | f + 1, k, listed => (Region.ready md ops listed).contains k && Region.free md ops listed k && lexFirst md ops n f (k + 1) (listed.setIfInBounds k true)
def marks : Nat → Nat → Array Bool → Array Bool
  | 0, _, listed => listed
  | f + 1, k, listed => marks f (k + 1) (listed.setIfInBounds k true)
theorem headQ_lex2 {c n : Nat} {R : Act → Prop} (hsel : Region.noSelect ops = true) (hB : headB md ops c n = true) (hn : n ≤ ops.size) :
    ∀ (l : List Oper) (k : Nat) (listed : Array Bool) (a : Act), c ≤ k → (∀ j, j < l.length → l[j]? = ops[k + j]?) → k + l.length = n → HeadInv md ops n listed →
    lexFirst md ops n l.length k listed = true → wpQuiet P ops C R l a →
    headQ P md ops C n (fun listed' a' => (listed' = marks l.length k listed ∧ ∀ j ∈ Region.ready md ops listed', n ≤ j) ∧ R a') l.length listed a
  | [], k, listed, a, _, _, hk, _, hL, h => by
    refine ⟨⟨rfl, fun j hj => ?_⟩, h⟩
    have := List.all_eq_true.1 hL j hj
    simpa using this
  | o :: l, k, listed, a, hck, hl, hk, inv, hL, h => by
    have h0 : ops[k]? = some o := by simpa using (hl 0 (by simp)).symm
    simp only [List.length_cons, lexFirst, Bool.and_eq_true] at hL
    obtain ⟨⟨hr, hf⟩, hL'⟩ := hL
    have hkn : k < n := by simp only [List.length_cons] at hk; omega
    have hr' : k ∈ Region.ready md ops listed := by simpa using hr
    obtain ⟨v, hy, hK⟩ := yieldsIn_of_qOp (C := C) (K := wpQuiet P ops C R l) h0 (by unfold qOp; simp only [h0]; exact h)
    refine headQ_first2 h0 (Region.noSelect_spec hsel) hB hn hck hkn (fun _ _ hL => hL.1.2) l.length listed a inv (Region.free_spec h0 hf) hr' hy ?_
    exact headQ_lex2 hsel hB hn l (k + 1) _ _ (by omega) (fun j hj => by have := hl (j + 1) (by simp; omega); simpa [Nat.add_assoc, Nat.add_comm 1 j] using this) (by simp only [List.length_cons] at hk; omega) (inv.set hr' hkn) hL' hK
/-- The first so many may come up one behind the other. -/
def lexPre (md : Region.Mode) (ops : Array Oper) : Nat → Nat → Array Bool → Bool
  | 0, _, _ => true
  | f + 1, k, listed => (Region.ready md ops listed).contains k && lexPre md ops f (k + 1) (listed.setIfInBounds k true)
theorem pre_inv {n : Nat} : ∀ (f k : Nat) (listed : Array Bool), k + f ≤ n → HeadInv md ops n listed → lexPre md ops f k listed = true → HeadInv md ops n (marks f k listed)
  | 0, _, _, _, inv, _ => inv
  | f + 1, k, listed, hk, inv, h => by
    simp only [lexPre, Bool.and_eq_true] at h
    exact pre_inv f (k + 1) _ (by omega) (inv.set (by simpa using h.1) (by omega)) h.2
end
/-- The check of a region whose first c have come up, and whose next go first. -/
def firstB (ops : Array Oper) (c n : Nat) : Bool :=
  Region.noSelect ops && decide (n ≤ ops.size) && headB .any ops c n && lexPre .any ops c 0 (Array.replicate ops.size false) && lexFirst .any ops n (n - c) c (marks c 0 (Array.replicate ops.size false))
theorem marks_add : ∀ (f g k : Nat) (listed : Array Bool), marks g (k + f) (marks f k listed) = marks (f + g) k listed
  | 0, g, k, listed => by simp [marks]
  | f + 1, g, k, listed => by
    rw [show f + 1 + g = (f + g) + 1 by omega]
    show marks g (k + (f + 1)) (marks f (k + 1) _) = marks (f + g) (k + 1) _
    rw [← marks_add f g (k + 1), show k + (f + 1) = k + 1 + f by omega]
/-- OPERATIONS IN WHATEVER ORDER: the first c have come up; those up to n quiet, walked in the text's order; what is left in whatever order, from whatever world in which all that lay there lies as it lay. -/
theorem wpAny_below_head {P : Program} {Q : Exit → Act → World → Prop} {a : Act} {w : World} {l : List Oper} (c n : Nat) (hB : firstB l.toArray c n = true)
    (h : wpQuiet P l.toArray (fun w' => ∃ p : Regrown, w' = Sort.grow (redrawn w p.d) p.os) (fun a' => ∀ w', Below w.heap.size w w' → wpAny P .any l.toArray Q (l.length - n) (marks n 0 (Array.replicate l.length false)) a' w') ((l.take n).drop c) a) :
    wpAny P .any l.toArray Q (l.length - c) (marks c 0 (Array.replicate l.length false)) a w := by
  simp only [firstB, Bool.and_eq_true, decide_eq_true_eq] at hB
  obtain ⟨⟨⟨⟨hsel, hn⟩, hh⟩, hpre⟩, hlex⟩ := hB
  have hcn : c < n := by simp only [headB, Bool.and_eq_true, decide_eq_true_eq] at hh; exact hh.1.1
  have hn' : n ≤ l.length := by simpa using hn
  have htl : ((l.take n).drop c).length = n - c := by simp; omega
  have inv0 : HeadInv .any l.toArray n (Array.replicate l.toArray.size false) :=
    ⟨by simp, fun j oj _ hl => (by rw [getD_replicate_false] at hl; cases hl), fun t _ ht => getD_in (by simpa using ht) (getD_replicate_false _ _)⟩
  have inv := pre_inv c 0 _ (by omega) inv0 hpre
  have H := headQ_lex2 (C := fun w' => ∃ p : Regrown, w' = Sort.grow (redrawn w p.d) p.os) (md := .any) hsel hh hn ((l.take n).drop c) c _ a (Nat.le_refl _) (fun j hj => by
    have hj' : c + j < n := by rw [htl] at hj; omega
    simp [List.getElem?_drop, hj']) (by rw [htl]; omega) inv (by rw [htl]; exact hlex) h
  have fin := any_of_headQ (Q := Q) (g := l.toArray.size - n) (fun listed a' w' hw' hL => by
    obtain ⟨⟨rfl, _⟩, hR⟩ := hL
    obtain ⟨p, rfl⟩ := hw'
    have := hR _ (below_regrown w p.d p.os)
    have e := marks_add c (n - c) 0 (Array.replicate l.toArray.size false)
    rw [Nat.zero_add, show c + (n - c) = n by omega] at e
    rw [htl, e]
    simpa using this) _ _ _ w ⟨⟨w.drawn, #[]⟩, by rw [Sort.grow_empty]; rfl⟩ H
  rw [htl, show n - c + (l.toArray.size - n) = l.length - c by simp; omega] at fin
  simpa using fin
theorem wpQuiet_mono {P : Program} {ops : Array Oper} {C : World → Prop} {R R' : Act → Prop} (hR : ∀ a, R a → R' a) : ∀ (l : List Oper) (a : Act), wpQuiet P ops C R l a → wpQuiet P ops C R' l a
  | [], a, h => hR a h
  | o :: l, a, h => by
    unfold wpQuiet at h ⊢
    split
    · rename_i hw
      rw [if_pos hw] at h
      exact Oper.quiet_mono (fun a' h' => wpQuiet_mono hR l a' h') h
    · rename_i hw
      rw [if_neg hw] at h
      exact wpQuiet_mono hR l _ h
/-- A REGION THAT DRAWS: the first n operations quiet, walked in the text's order; what is left in whatever order, from whatever world in which all that lay there lies as it lay. -/
theorem wp_region_below_head {P : Program} {id : Nat} {Q : Exit → Act → World → Prop} {a : Act} {w : World} {l : List Oper} (n : Nat) (hm : P.follows .mixedOrders = true) (hB : firstB l.toArray 0 n = true)
    (h : wpQuiet P l.toArray (fun w' => ∃ p : Regrown, w' = Sort.grow (redrawn w p.d) p.os) (fun a' => ∀ w', Below w.heap.size w w' → wpAny P .any l.toArray Q (l.length - n) (marks n 0 (Array.replicate l.length false)) a' w') (l.take n) a) :
    (Code.region id l.toArray true).wp P Q a w := by
  refine wp_region_any hm ?_
  have e : ∀ w', Below { w with drawn := w.drawn + 1 }.heap.size { w with drawn := w.drawn + 1 } w' → Below w.heap.size w w' := fun w' hb => ⟨hb.os, hb.tape, hb.output, hb.size, hb.block⟩
  have hq : wpQuiet P l.toArray (fun w' => ∃ p : Regrown, w' = Sort.grow (redrawn { w with drawn := w.drawn + 1 } p.d) p.os) (fun a' => ∀ w', Below { w with drawn := w.drawn + 1 }.heap.size { w with drawn := w.drawn + 1 } w' → wpAny P .any l.toArray Q (l.length - n) (marks n 0 (Array.replicate l.length false)) a' w') (l.take n) a :=
    wpQuiet_mono (fun a' H w' hb => H w' (e w' hb)) (l.take n) a h
  have := wpAny_below_head (P := P) (Q := Q) (a := a) (w := { w with drawn := w.drawn + 1 }) 0 n hB hq
  simpa [marks] using this
/-- The last operations of a region, whose order is forced. -/
theorem wpAny_rest {P : Program} {md : Region.Mode} {l : List Oper} {Q : Exit → Act → World → Prop} {listed : Array Bool} {a : Act} {w : World} (k : Nat)
    (hB : Region.seqB md l.toArray (l.length - k) k listed = true) (h : wpList P l.toArray Q (l.drop k) a w) : wpAny P md l.toArray Q (l.length - k) listed a w := by
  have := wpAny_of_seq (P := P) (md := md) (ops := l.toArray) (Q' := Q) (l.drop k) k listed a w (fun j => by simp [List.getElem?_drop]) (by simpa using hB) h
  simpa using this
/-- The last operation of a region. -/
theorem wpAny_last {P : Program} {md : Region.Mode} {l : List Oper} {Q : Exit → Act → World → Prop} {listed : Array Bool} {a : Act} {w : World} (k : Nat) (o : Oper) (ho : l[k]? = some o) (hk : l.length = k + 1)
    (hB : Region.seqB md l.toArray 1 k listed = true) (h : wpList P l.toArray Q [o] a w) : wpAny P md l.toArray Q 1 listed a w := by
  refine wpAny_of_seq [o] k listed a w (fun j => ?_) hB h
  cases j with
  | zero => simpa using ho.symm
  | succ j => simp; omega
end Go.Proofs.YtlicadfbkjhihaaDoor

namespace Go.Proofs.YtlicadfbkjhihaaDoor
open Go.RowKit
set_option linter.unusedSimpArgs false
set_option linter.unusedVariables false

theorem strsAt_pair (w : World) (l0 l1 : List UInt8) (t : TypeId) : StrsAt (w.alloc (.cells #[.string (str l0), .string (str l1)] t)) (some ⟨w.heap.size, 0, none⟩) [l0, l1] := by
  refine .inr ⟨w.heap.size, 0, rfl, by simp, fun j hj => ?_⟩
  match j, hj with
  | 0, _ => go_simp
  | 1, _ => go_simp
  | j + 2, hj => simp at hj; omega
set_option maxHeartbeats 2000000 in
set_option maxRecDepth 100000 in
theorem twoD_calls (dom : Nat) (hdom : dom < 256) (a b : List UInt8) (ha : a.length = 32) (hb : b.length = 32) (w : World) (tabs : Tabs w) :
    Calls Tryd.prog 51 #[.pointer none, .int .u8 (dom : Int), .agg (bc a), .agg (bc b)] w fun e w' => e = .returned (.agg (bc (pOf dom [a, b]))) ∧ Below w.heap.size w w' := by
  have co := fun g w hs tabs => ofNil_calls dom hdom [a, b] (by simp; omega) (by simp) (some ⟨g, 0, none⟩) 2 w hs tabs
  have hia := digInfo a ha
  have hib := digInfo b hb
  have hi1 := digInfo (pOf dom [a, b]) (pOf_length dom [a, b])
  have hz1 := zeroSize (pOf dom [a, b]) (pOf_length dom [a, b])
  have ho1 := bc_oneCell (pOf dom [a, b])
  have ca := fun w => wdigest_calls a ha w
  have cb := fun w => wdigest_calls b hb w
  generalize pOf dom [a, b] = D at *
  have A3 := hide (al3 w (.cells (bc a) 23) (.cells (bc b) 23) (.cells (bc (List.replicate 32 0)) 23))
  have B3 := hide (bel3 w (.cells (bc a) 23) (.cells (bc b) 23) (.cells (bc (List.replicate 32 0)) 23))
  have S3 : Hid ((((w.alloc (.cells (bc a) 23)).alloc (.cells (bc b) 23)).alloc (.cells (bc (List.replicate 32 0)) 23)).heap.size = w.heap.size + 1 + 1 + 1) := hide (by simp)
  generalize hX : ((w.alloc (.cells (bc a) 23)).alloc (.cells (bc b) 23)).alloc (.cells (bc (List.replicate 32 0)) 23) = X at *
  have HX := hide hX
  have CO := hide co
  have HT := hide tabs
  have kA : Hid (∀ dd os, Calls Tryd.prog 39 #[.agg (bc a)] (Sort.grow (redrawn X.drew dd) os) fun e w'' => e = .returned (.string (str a)) ∧ ∃ p : Regrown, w'' = Sort.grow (redrawn X.drew p.d) p.os) := fun dd os => Calls.regrown_of (ca _)
  have kB : Hid (∀ dd os, Calls Tryd.prog 39 #[.agg (bc b)] (Sort.grow (redrawn X.drew dd) os) fun e w'' => e = .returned (.string (str b)) ∧ ∃ p : Regrown, w'' = Sort.grow (redrawn X.drew p.d) p.os) := fun dd os => Calls.regrown_of (cb _)
  have dX : Below X.heap.size X X.drew := ⟨rfl, rfl, rfl, Nat.le_refl _, fun _ _ => rfl⟩
  have s3 := unhide S3
  have R0 : Hid (∀ w', (∃ p : Regrown, w' = Sort.grow (redrawn X.drew p.d) p.os) → w'.heap[w.heap.size]? = some (.cells (bc a) 23 (0, 0))) := fun w' ⟨p, hp⟩ => by
    rw [hp]; exact Below.at (below_regrown X.drew p.d p.os) (by show _ < X.heap.size; omega) (unhide A3).1
  have R1 : Hid (∀ w', (∃ p : Regrown, w' = Sort.grow (redrawn X.drew p.d) p.os) → w'.heap[w.heap.size + 1]? = some (.cells (bc b) 23 (0, 0))) := fun w' ⟨p, hp⟩ => by
    rw [hp]; exact Below.at (below_regrown X.drew p.d p.os) (by show _ < X.heap.size; omega) (unhide A3).2.1
  clear co ca cb tabs s3 dX hX
  go_enter Tryd.func51, Tryd.ntmps51
  go_wp2_with fail
  change Code.wp _ _ _ _ (((w.alloc (.cells (bc a) 23)).alloc (.cells (bc b) 23)).alloc (.cells (bc (List.replicate 32 0)) 23))
  rw [unhide HX]
  refine wp_region_any mixed ?_
  change wpAny _ _ _ _ _ _ _ X.drew
  refine wpAny_take (i := 0) rfl (by kernel_rfl) (by kernel_rfl) (by kernel_rfl) (fun _ _ _ h => h) (.inl ⟨rfl, fun _ => rfl⟩) ?_
  refine wpAny_take (i := 1) rfl (by kernel_rfl) (by kernel_rfl) (by kernel_rfl) (fun _ _ _ h => h) (.inl ⟨rfl, fun _ => rfl⟩) ?_
  refine wpAny_below_head 2 6 (by kernel_rfl) ?_
  simp only [List.take_succ_cons, List.take_zero, List.drop_succ_cons, List.drop_zero]
  refine wpQuiet_load_row rfl 23 (.tmp 6) rfl w.heap.size rfl 23 _ (0, 0) _ (unhide R0) Tryd.underlying23 rfl hia ?_
  quiet_step (exact unhide kA _ _)
  refine wpQuiet_load_row rfl 23 (.tmp 7) rfl (w.heap.size + 1) rfl 23 _ (0, 0) _ (unhide R1) Tryd.underlying23 rfl hib ?_
  quiet_step (exact unhide kB _ _)
  refine wpQuiet_nil ?_
  intro w2 hb2
  have hb2' : Below X.heap.size X w2 := ⟨hb2.os, hb2.tape, hb2.output, hb2.size, hb2.block⟩
  have s3 := unhide S3
  have q2 := Below.at hb2' (by omega) (unhide A3).2.2
  have hbw : Below w.heap.size w w2 := (unhide B3).trans (hb2'.mono (by omega))
  have z2 : w.heap.size + 1 + 1 < w2.heap.size := by have := hb2'.size; omega
  have HB := hide hbw
  have Q2 := hide q2
  have Z2 := hide z2
  clear hb2 hb2' s3 q2 hbw z2
  refine wpAny_rest 6 (by kernel_rfl) ?_
  simp only [List.drop_succ_cons, List.drop_zero]
  go_wp2_with fail
  refine (unhide CO _ _ (strsAt_pair w2 a b _) (((unhide HT).below (unhide HB) (Nat.le_refl _)).below' ((Below.refl _ w2).alloc (Nat.le_refl _) _))).mono ?_
  rintro e w3 ⟨rfl, b3⟩
  have q3 := Below.at b3 (by have := unhide Z2; simp; omega) ((Below.heap_alloc w2 (.cells #[.string (str a), .string (str b)] 9) _ (unhide Z2)).trans (unhide Q2))
  have hb3 : Below w.heap.size w w3 := ((unhide HB).alloc (by have := unhide Z2; omega) _).trans (b3.mono (by have := unhide Z2; simp; omega))
  have Q3 := hide q3
  have HB3 := hide hb3
  clear b3 q3 hb3
  go_wp2_with (refine wpList_store_row rfl 23 (.tmp 8) (.tmp 16) rfl (w.heap.size + 1 + 1) _ rfl rfl 23 _ (unhide Q3) hi1 hz1 ho1 ?_)
  exact bodyPost_ret (results_cell_row rfl _ _ (w.heap.size + 1 + 1) _ _ _ _ rfl (setRow_heap _ _ _ _ _ _ (unhide Q3)) Tryd.underlying23 rfl hi1) rfl ⟨rfl, below_setRow (unhide HB3) (by omega) _⟩
end Go.Proofs.YtlicadfbkjhihaaDoor

namespace Go.Proofs.YtlicadfbkjhihaaDoor
open Go Go.RowKit
set_option linter.unusedSimpArgs false
set_option linter.unusedVariables false

/-- The digest of two digests, of the domain Node. -/
def pNode (a b : List UInt8) : List UInt8 := pOf 6 [a, b]
theorem pNode_length (a b : List UInt8) : (pNode a b).length = 32 := pOf_length _ _
theorem strsAt_two (w : World) (l0 l1 : List UInt8) (t : TypeId) : StrsAt (w.alloc (.cells #[.string (str l0), .string (str l1)] t)) (some ⟨w.heap.size, 0, none⟩) [l0, l1] := by
  refine .inr ⟨w.heap.size, 0, rfl, by simp, fun j hj => ?_⟩
  match j, hj with
  | 0, _ => go_simp
  | 1, _ => go_simp
  | j + 2, hj => simp at hj; omega
set_option maxHeartbeats 2000000 in
set_option maxRecDepth 100000 in
theorem two_calls (a b : List UInt8) (ha : a.length = 32) (hb : b.length = 32) (w : World) (tabs : Tabs w) :
    Calls Tryd.prog 51 #[.pointer none, .int .u8 6, .agg (bc a), .agg (bc b)] w fun e w' => e = .returned (.agg (bc (pNode a b))) ∧ Below w.heap.size w w' := by
  have co := fun g w hs tabs => ofNil_calls 6 (by decide) [a, b] (by simp; omega) (by simp) (some ⟨g, 0, none⟩) 2 w hs tabs
  have hia := digInfo a ha
  have hib := digInfo b hb
  have hi1 := digInfo (pNode a b) (pNode_length a b)
  have hz1 := zeroSize (pNode a b) (pNode_length a b)
  have ho1 := bc_oneCell (pNode a b)
  have ca := fun w => wdigest_calls a ha w
  have cb := fun w => wdigest_calls b hb w
  have e2 : pOf 6 [a, b] = pNode a b := rfl
  rw [e2] at co
  generalize pNode a b = D at *
  have A3 := hide (al3 w (.cells (bc a) 23) (.cells (bc b) 23) (.cells (bc (List.replicate 32 0)) 23))
  have B3 := hide (bel3 w (.cells (bc a) 23) (.cells (bc b) 23) (.cells (bc (List.replicate 32 0)) 23))
  have S3 : Hid ((((w.alloc (.cells (bc a) 23)).alloc (.cells (bc b) 23)).alloc (.cells (bc (List.replicate 32 0)) 23)).heap.size = w.heap.size + 1 + 1 + 1) := hide (by simp)
  generalize hX : ((w.alloc (.cells (bc a) 23)).alloc (.cells (bc b) 23)).alloc (.cells (bc (List.replicate 32 0)) 23) = X at *
  have HX := hide hX
  have CO := hide co
  have HT := hide tabs
  have kA : Hid (∀ dd os, Calls Tryd.prog 39 #[.agg (bc a)] (Sort.grow (redrawn X.drew dd) os) fun e w'' => e = .returned (.string (str a)) ∧ ∃ p : Regrown, w'' = Sort.grow (redrawn X.drew p.d) p.os) := fun dd os => Calls.regrown_of (ca _)
  have kB : Hid (∀ dd os, Calls Tryd.prog 39 #[.agg (bc b)] (Sort.grow (redrawn X.drew dd) os) fun e w'' => e = .returned (.string (str b)) ∧ ∃ p : Regrown, w'' = Sort.grow (redrawn X.drew p.d) p.os) := fun dd os => Calls.regrown_of (cb _)
  have dX : Below X.heap.size X X.drew := ⟨rfl, rfl, rfl, Nat.le_refl _, fun _ _ => rfl⟩
  have s3 := unhide S3
  have R0 : Hid (∀ w', (∃ p : Regrown, w' = Sort.grow (redrawn X.drew p.d) p.os) → w'.heap[w.heap.size]? = some (.cells (bc a) 23 (0, 0))) := fun w' ⟨p, hp⟩ => by
    rw [hp]; exact Below.at (below_regrown X.drew p.d p.os) (by show _ < X.heap.size; omega) (unhide A3).1
  have R1 : Hid (∀ w', (∃ p : Regrown, w' = Sort.grow (redrawn X.drew p.d) p.os) → w'.heap[w.heap.size + 1]? = some (.cells (bc b) 23 (0, 0))) := fun w' ⟨p, hp⟩ => by
    rw [hp]; exact Below.at (below_regrown X.drew p.d p.os) (by show _ < X.heap.size; omega) (unhide A3).2.1
  clear co ca cb tabs e2 s3 dX hX
  go_enter Tryd.func51, Tryd.ntmps51
  go_wp2_with fail
  change Code.wp _ _ _ _ (((w.alloc (.cells (bc a) 23)).alloc (.cells (bc b) 23)).alloc (.cells (bc (List.replicate 32 0)) 23))
  rw [unhide HX]
  refine wp_region_any mixed ?_
  change wpAny _ _ _ _ _ _ _ X.drew
  refine wpAny_take (i := 0) rfl (by kernel_rfl) (by kernel_rfl) (by kernel_rfl) (fun _ _ _ h => h) (.inl ⟨rfl, fun _ => rfl⟩) ?_
  refine wpAny_take (i := 1) rfl (by kernel_rfl) (by kernel_rfl) (by kernel_rfl) (fun _ _ _ h => h) (.inl ⟨rfl, fun _ => rfl⟩) ?_
  refine wpAny_below_head 2 6 (by kernel_rfl) ?_
  simp only [List.take_succ_cons, List.take_zero, List.drop_succ_cons, List.drop_zero]
  refine wpQuiet_load_row rfl 23 (.tmp 6) rfl w.heap.size rfl 23 _ (0, 0) _ (unhide R0) Tryd.underlying23 rfl hia ?_
  quiet_step (exact unhide kA _ _)
  refine wpQuiet_load_row rfl 23 (.tmp 7) rfl (w.heap.size + 1) rfl 23 _ (0, 0) _ (unhide R1) Tryd.underlying23 rfl hib ?_
  quiet_step (exact unhide kB _ _)
  refine wpQuiet_nil ?_
  intro w2 hb2
  have hb2' : Below X.heap.size X w2 := ⟨hb2.os, hb2.tape, hb2.output, hb2.size, hb2.block⟩
  have s3 := unhide S3
  have q2 := Below.at hb2' (by omega) (unhide A3).2.2
  have hbw : Below w.heap.size w w2 := (unhide B3).trans (hb2'.mono (by omega))
  have z2 : w.heap.size + 1 + 1 < w2.heap.size := by have := hb2'.size; omega
  have HB := hide hbw
  have Q2 := hide q2
  have Z2 := hide z2
  clear hb2 hb2' s3 q2 hbw z2
  refine wpAny_rest 6 (by kernel_rfl) ?_
  simp only [List.drop_succ_cons, List.drop_zero]
  go_wp2_with fail
  refine (unhide CO _ _ (strsAt_two w2 a b _) (((unhide HT).below (unhide HB) (Nat.le_refl _)).below' ((Below.refl _ w2).alloc (Nat.le_refl _) _))).mono ?_
  rintro e w3 ⟨rfl, b3⟩
  have q3 := Below.at b3 (by have := unhide Z2; simp; omega) ((Below.heap_alloc w2 (.cells #[.string (str a), .string (str b)] 9) _ (unhide Z2)).trans (unhide Q2))
  have hb3 : Below w.heap.size w w3 := ((unhide HB).alloc (by have := unhide Z2; omega) _).trans (b3.mono (by have := unhide Z2; simp; omega))
  have Q3 := hide q3
  have HB3 := hide hb3
  clear b3 q3 hb3
  go_wp2_with (refine wpList_store_row rfl 23 (.tmp 8) (.tmp 16) rfl (w.heap.size + 1 + 1) _ rfl rfl 23 _ (unhide Q3) hi1 hz1 ho1 ?_)
  exact bodyPost_ret (results_cell_row rfl _ _ (w.heap.size + 1 + 1) _ _ _ _ rfl (setRow_heap _ _ _ _ _ _ (unhide Q3)) Tryd.underlying23 rfl hi1) rfl ⟨rfl, below_setRow (unhide HB3) (by omega) _⟩
/-- The nought of a level. -/
def pNought : Nat → List UInt8
  | 0 => List.replicate 32 0
  | k + 1 => pNode (pNought k) (pNought k)
theorem pNought_length : ∀ k, (pNought k).length = 32
  | 0 => rfl
  | k + 1 => pNode_length _ _
end Go.Proofs.YtlicadfbkjhihaaDoor

namespace Go.Proofs.YtlicadfbkjhihaaDoor
open Go.RowKit
set_option linter.unusedSimpArgs false
set_option linter.unusedVariables false

/-- A list with another one written over it from a place on. -/
def putAt (L : List UInt8) (o : Nat) (D : List UInt8) : List UInt8 := L.take o ++ D ++ L.drop (o + D.length)
theorem putAt_length (L : List UInt8) (o : Nat) (D : List UInt8) (h : o + D.length ≤ L.length) : (putAt L o D).length = L.length := by
  unfold putAt; simp; omega
theorem putAt_zeros (A D : List UInt8) (n o : Nat) (ho : o = A.length) (h : D.length ≤ n) : putAt (A ++ List.replicate n 0) o D = A ++ D ++ List.replicate (n - D.length) 0 := by
  subst ho
  unfold putAt
  rw [List.take_left, ← List.drop_drop, List.drop_left, List.drop_replicate]
theorem setCells_heap (g : Nat) (t : TypeId) : ∀ (vs : List Value) (o : Nat) (C : Array Value) (w : World), w.heap[g]? = some (.cells C t (0, 0)) → o + vs.length ≤ C.size →
    (w.setCells g o vs).heap[g]? = some (.cells (C.toList.take o ++ vs ++ C.toList.drop (o + vs.length)).toArray t (0, 0)) ∧ (∀ k, k ≠ g → (w.setCells g o vs).heap[k]? = w.heap[k]?) ∧ (w.setCells g o vs).heap.size = w.heap.size ∧ (∀ B, B ≤ g → Below B w (w.setCells g o vs))
  | [], o, C, w, hg, h => by
    refine ⟨?_, fun _ _ => rfl, rfl, fun B _ => Below.refl B w⟩
    show w.heap[g]? = _
    rw [hg]
    simp
  | v :: vs, o, C, w, hg, h => by
    have h1 := heap_setCell_same w g o C t v hg
    have hsz : (C.setIfInBounds o v).size = C.size := by simp
    have hlt : o < C.size := by simp at h; omega
    obtain ⟨r1, r2, r3, r4⟩ := setCells_heap g t vs (o + 1) (C.setIfInBounds o v) (w.setCell ⟨g, o, none⟩ v) h1 (by rw [hsz]; simp at h; omega)
    have e : w.setCells g o (v :: vs) = (w.setCell ⟨g, o, none⟩ v).setCells g (o + 1) vs := rfl
    rw [e]
    refine ⟨?_, ?_, ?_, ?_⟩
    · rw [r1]
      congr 2
      have e1 : (C.setIfInBounds o v).toList = C.toList.set o v := by simp
      rw [e1]
      have e2 : C.toList.set o v = C.toList.take o ++ v :: C.toList.drop (o + 1) := List.set_eq_take_append_cons_drop.trans (by simp [hlt])
      rw [e2]
      have e3 : (C.toList.take o).length = o := by simp; omega
      rw [show o + 1 = (C.toList.take o ++ [v]).length by simp; omega, show C.toList.take o ++ v :: C.toList.drop (C.toList.take o ++ [v]).length = (C.toList.take o ++ [v]) ++ C.toList.drop (C.toList.take o ++ [v]).length by simp, List.take_left]
      rw [← List.drop_drop, List.drop_left, List.drop_drop]
      simp only [List.append_assoc, List.cons_append, List.nil_append, List.length_append, List.length_cons, List.length_nil, e3]
      rw [show o + (0 + 1) + vs.length = o + (vs.length + 1) by omega]
    · intro k hk
      rw [r2 k hk]
      exact Below.heap_setCell w ⟨g, o, none⟩ v k hk
    · rw [r3]; simp [World.setCell]
    · intro B hB
      exact ((Below.refl B w).setCell (p := ⟨g, o, none⟩) hB v).trans (r4 B hB)
theorem bc_put (L D : List UInt8) (o : Nat) : ((bc L).toList.take o ++ (bc D).toList ++ (bc L).toList.drop (o + (bc D).toList.length)).toArray = bc (putAt L o D) := by
  unfold bc putAt Lib.byteCells
  simp [List.map_take, List.map_drop]
theorem bc_there (w : World) (g o n : Nat) (L : List UInt8) (t : TypeId) (hg : w.heap[g]? = some (.cells (bc L) t (0, 0))) (h : o + n ≤ L.length) : w.there g o n := by
  intro j hj
  refine ⟨?_, frozen_of_row _ _ _ _ _ hg⟩
  rw [cell_of_row _ _ _ _ _ _ hg, bc_at _ _ (by omega)]; rfl
/-- A store of bytes into the middle of a block of bytes. -/
theorem wpList_store_at {P : Program} {ops : Array Oper} {rest : List Oper} {op : Oper} {a : Act} {w : World} {Q : Exit → Act → World → Prop} (hgd : op.guard = none) (ty : TypeId) (x y : Operand) (ho : op.op = .store ty x y)
    (g o : Nat) (L D : List UInt8) (t : TypeId) (hx : a.eval x = .pointer (some ⟨g, o, none⟩)) (hy : a.eval y = .agg (bc D)) (hg : w.heap[g]? = some (.cells (bc L) t (0, 0))) (hle : o + D.length ≤ L.length)
    (hi : (P.info? ty).map (·.size) = some (bc D).size)
    (h : ∀ w', w'.heap[g]? = some (.cells (bc (putAt L o D)) t (0, 0)) → (∀ k, k ≠ g → w'.heap[k]? = w.heap[k]?) → w'.heap.size = w.heap.size → (∀ B, B ≤ g → Below B w w') → wpList P ops Q rest (a.put op.dst undef) w') :
    wpList P ops Q (op :: rest) a w := by
  refine wpList_store_mid hgd ty x y ho g o (bc D) hx hy (bc_there w g o _ L t hg (by rw [bc_size]; exact hle)) hi (bc_oneCell D) ?_
  obtain ⟨r1, r2, r3, r4⟩ := setCells_heap g t (bc D).toList o (bc L) w hg (by rw [bc_size]; simpa using hle)
  rw [bc_put] at r1
  exact h _ r1 r2 r3 r4
/-- A part of a block of bytes, as a range. -/
theorem bc_range (w : World) (g o n : Nat) (L : List UInt8) (t : TypeId) (hg : w.heap[g]? = some (.cells (bc L) t (0, 0))) : w.rangeAt g o (Lib.byteCells ((L.drop o).take n)) := by
  have := World.rangeAt_of_block hg o n
  have e : ((bc L).extract o (o + n)).toList = Lib.byteCells ((L.drop o).take n) := by
    unfold bc Lib.byteCells
    simp [List.map_take, List.map_drop, List.extract_eq_take_drop]
  rw [e] at this
  exact this
end Go.Proofs.YtlicadfbkjhihaaDoor

namespace Go.Proofs.YtlicadfbkjhihaaDoor
open Go.RowKit

theorem wpQuiet_load_mid {P : Program} {ops : Array Oper} {C : World → Prop} {Q : Act → Prop} {a : Act} {o : Oper} {rest : List Oper} (hw : Region.wanted o (yielded ops a.tmps) = true) (ty : TypeId) (x : Operand) (ho : o.op = .load ty x)
    (b off : Nat) (hx : a.eval x = .pointer (some ⟨b, off, none⟩)) (cs : List Value) (d : TypeDesc) (hc : ∀ w, C w → w.rangeAt b off cs)
    (hu : P.underlying ty = some d) (hd : d.isRow = true) (hi : (P.info? ty).map (·.size) = some cs.length)
    (h : wpQuiet P ops C Q rest (a.put o.dst (.agg cs.toArray))) : wpQuiet P ops C Q (o :: rest) a := by
  show if _ then _ else _
  rw [if_pos hw]
  refine ⟨.agg cs.toArray, fun w hC => ?_, h⟩
  have hl := run_loadVar_mid w b off ty cs d (hc w hC) hu hd hi
  unfold Oper.quietAt execOp
  simp only [ho, hx, Instr.loadAt, Instr.sureAddr, Sem.run_bind, Sem.run_pure, Result.andThen_ok, hl]
  exact ⟨rfl, rfl⟩
theorem wpQuiet_eql {P : Program} {ops : Array Oper} {C : World → Prop} {Q : Act → Prop} {a : Act} {o : Oper} {rest : List Oper} (hw : Region.wanted o (yielded ops a.tmps) = true) (t t' : TypeId) (x y : Operand) (ho : o.op = .binOp .eql t x y t')
    (u v : Array Value) (hx : a.eval x = .agg u) (hy : a.eval y = .agg v) (hgt : P.eqGuardType P.depth t = false) (b : Bool) (he : ∀ w, (binOp .eql t (.agg u) (.agg v)).run P w = .ok (.bool b) w)
    (h : wpQuiet P ops C Q rest (a.put o.dst (.bool b))) : wpQuiet P ops C Q (o :: rest) a := by
  show if _ then _ else _
  rw [if_pos hw]
  refine ⟨.bool b, fun w hC => ?_, h⟩
  have hg : (eqGuard .eql t x y (.agg u) (.agg v)).run P w = .ok () w := run_eqGuard_agg w .eql t x y u v hgt
  unfold Oper.quietAt execOp
  simp only [ho, hx, hy, Sem.run_bind, hg, Result.andThen_ok, he]
  exact ⟨rfl, rfl⟩
end Go.Proofs.YtlicadfbkjhihaaDoor

namespace Go.Proofs.YtlicadfbkjhihaaDoor
open Go Go.RowKit
set_option linter.unusedSimpArgs false
set_option linter.unusedVariables false

/-- A list of digests lies where a slice points. -/
def DL (w : World) (p : Option Addr) (ds : List (List UInt8)) : Prop :=
  (∀ d ∈ ds, d.length = 32) ∧ (ds ≠ [] → ∃ b off, p = some ⟨b, off, none⟩ ∧ b < w.heap.size ∧ ∀ i, i < ds.length → w.rangeAt b (off + i * 32) (Lib.byteCells (ds.getD i [])))
theorem rangeAt_below {w w' : World} {B b off : Nat} {cs : List Value} (h : w.rangeAt b off cs) (hb : Below B w w') (hB : b < B) : w'.rangeAt b off cs := fun i v hv => by
  rw [← h i v hv]
  exact hb.cell (p := ⟨b, off + i, none⟩) hB
theorem DL.below {w w' : World} {B : Nat} {p : Option Addr} {ds : List (List UInt8)} (h : DL w p ds) (hb : Below B w w') (hB : w.heap.size ≤ B) : DL w' p ds := by
  refine ⟨h.1, fun hn => ?_⟩
  obtain ⟨b, off, rfl, hlt, hc⟩ := h.2 hn
  exact ⟨b, off, rfl, Nat.lt_of_lt_of_le hlt hb.size, fun i hi => rangeAt_below (hc i hi) hb (Nat.lt_of_lt_of_le hlt hB)⟩
theorem DL.len {w : World} {p : Option Addr} {ds : List (List UInt8)} (h : DL w p ds) (i : Nat) (hi : i < ds.length) : (ds.getD i []).length = 32 := by
  have := h.1 (ds[i]'hi) (List.getElem_mem _)
  simpa [List.getD, hi] using this
/-- What stands at a place. -/
def pStand (ds : List (List UInt8)) (x : Nat) (z : List UInt8) : List UInt8 := if x < ds.length then ds.getD x [] else z
theorem pStand_length {ds : List (List UInt8)} (h : ∀ d ∈ ds, d.length = 32) (x : Nat) (z : List UInt8) (hz : z.length = 32) : (pStand ds x z).length = 32 := by
  unfold pStand
  split
  · rename_i hi
    have := h (ds[x]'hi) (List.getElem_mem _)
    simpa [List.getD, hi] using this
  · exact hz
/-- Up a branch. -/
def pClimb (leaf : List UInt8) (at' : Nat) (ds : List (List UInt8)) : Nat → List UInt8
  | 0 => leaf
  | k + 1 => if at' / 2 ^ k % 2 = 1 then pNode (ds.getD k []) (pClimb leaf at' ds k) else pNode (pClimb leaf at' ds k) (ds.getD k [])
theorem pClimb_length (leaf : List UInt8) (at' : Nat) (ds : List (List UInt8)) (hl : leaf.length = 32) : ∀ k, (pClimb leaf at' ds k).length = 32
  | 0 => hl
  | k + 1 => by unfold pClimb; split <;> exact pNode_length _ _
theorem mand_one (M : Nat) (h : M < 4294967296) : bits .and .u32 (M : Int) 1 = ((M % 2 : Nat) : Int) := by
  have := u32_and_nat M 1 h (by omega)
  rw [Nat.and_one_is_mod] at this
  exact this
end Go.Proofs.YtlicadfbkjhihaaDoor

namespace Go.Proofs.YtlicadfbkjhihaaDoor
open Go Go.RowKit

theorem mapM_some {α β : Type} (f : α → Option β) (g : α → β) (l : List α) (h : ∀ x ∈ l, f x = some (g x)) : l.mapM f = some (l.map g) := by
  induction l with
  | nil => rfl
  | cons x l ih =>
    rw [List.mapM_cons, h x (by simp), ih (fun y hy => h y (by simp [hy]))]; rfl

/-- The data of an array of integers. -/
theorem keyLits_ints {P : Program} (t e : TypeId) (n : Nat) (k : IntKind) (hu : P.underlying t = some (.array n e)) (he : P.underlying e = some (.int k)) (hce : P.cellsOf e = 1) (hct : P.cellsOf t = n)
    (zs : List Int) (hl : zs.length = n) (hw : ∀ z ∈ zs, (Lit.int k z).wf = true) : ∃ la, P.keyLits 2 t (zs.map (Value.int k)) = some la := by
  unfold Program.keyLits
  simp only [hu]
  rw [if_pos (by simp [hl, hct])]
  rw [mapM_some _ (fun i => [Lit.int k (zs.getD i 0)]) _ (fun i hi => ?_)]
  · exact ⟨_, rfl⟩
  · have hi' : i < zs.length := by rw [hl]; exact List.mem_range.1 hi
    rw [hce, Nat.mul_one, List.drop_eq_getElem_cons (by simpa using hi')]
    unfold Program.keyLits
    simp only [he]
    have hz : (Lit.int k zs[i]).wf = true := hw _ (List.getElem_mem _)
    simp [hz, hi']

theorem equalIn_refl {P : Program} (t : TypeId) (m D : Nat) (hm : m ≤ 10000) (hk : P.keyTypeAt m t = true) (cs : Array Value) (hf : (Value.agg cs).formed P t = true) (la : List Lit) (hla : P.keyLits D t cs.toList = some la) (w : World) :
    (Op.equalIn 10000 t (.agg cs) (.agg cs)).run P w = .ok true w := by
  obtain ⟨r, hr, hiff⟩ := run_equalIn_deep (P := P) (10000 - m) m t hk w D D (.agg cs) (.agg cs) la la hf hf hla hla
  rw [show 10000 - m + m = 10000 by omega] at hr
  obtain rfl : r = true := hiff.2 rfl
  exact hr
/-- A value of such a type equals itself. -/
theorem eql_refl {P : Program} (t : TypeId) (m D : Nat) (hm : m ≤ 10000) (hk : P.keyTypeAt m t = true) (cs : Array Value) (hf : (Value.agg cs).formed P t = true) (la : List Lit) (hla : P.keyLits D t cs.toList = some la) (w : World) :
    (binOp .eql t (.agg cs) (.agg cs)).run P w = .ok (.bool true) w := by
  obtain ⟨r, hr, hiff⟩ := run_equalIn_deep (P := P) (10000 - m) m t hk w D D (.agg cs) (.agg cs) la la hf hf hla hla
  rw [show 10000 - m + m = 10000 by omega] at hr
  obtain rfl : r = true := hiff.2 rfl
  rw [run_eql_struct, hr]; rfl

end Go.Proofs.YtlicadfbkjhihaaDoor

namespace Go.Proofs.YtlicadfbkjhihaaDoor
open Go Go.RowKit
set_option linter.unusedSimpArgs false
set_option linter.unusedVariables false

theorem keyLits_ints' {P : Program} (t e : TypeId) (n : Nat) (k : IntKind) (hu : P.underlying t = some (.array n e)) (he : P.underlying e = some (.int k)) (hce : P.cellsOf e = 1) (hct : P.cellsOf t = n)
    (zs : List Int) (hl : zs.length = n) (hw : ∀ z ∈ zs, (Lit.int k z).wf = true) : P.keyLits 2 t (zs.map (Value.int k)) = some (zs.map (Lit.int k)) := by
  unfold Program.keyLits
  simp only [hu]
  rw [if_pos (by simp [hl, hct])]
  rw [mapM_some _ (fun i => [Lit.int k (zs.getD i 0)]) _ (fun i hi => ?_)]
  · have e : ((List.range n).map fun i => [Lit.int k (zs.getD i 0)]).flatten = zs.map (Lit.int k) := by
      apply List.ext_getElem?
      intro i
      have e1 : ((List.range n).map fun i => [Lit.int k (zs.getD i 0)]).flatten = (List.range n).map fun i => Lit.int k (zs.getD i 0) := by
        induction (List.range n) with
        | nil => rfl
        | cons x l ih => rw [List.map_cons, List.flatten_cons, ih]; rfl
      rw [e1]
      by_cases hi : i < n
      · simp [hi, hl]
      · simp [hi, hl]
    show some _ = some _
    rw [← e]
  · have hi' : i < zs.length := by rw [hl]; exact List.mem_range.1 hi
    rw [hce, Nat.mul_one, List.drop_eq_getElem_cons (by simpa using hi')]
    unfold Program.keyLits
    simp only [he]
    have hz : (Lit.int k zs[i]).wf = true := hw _ (List.getElem_mem _)
    simp [hz, hi']
theorem dig_lits (d : List UInt8) (hd : d.length = 32) : Tryd.prog.keyLits 2 23 (bc d).toList = some ((d.map fun b => (b.toNat : Int)).map (Lit.int .u8)) := by
  have := keyLits_ints' (P := Tryd.prog) 23 5 32 .u8 Tryd.underlying23 Tryd.underlying5 (by kernel_rfl) (by kernel_rfl) (d.map fun b => (b.toNat : Int)) (by simpa using hd) (fun z hz => by
    obtain ⟨b, _, rfl⟩ := List.mem_map.1 hz
    have := b.toNat_lt
    simp [Lit.wf, IntKind.min, IntKind.max, IntKind.signed, IntKind.bits]; omega)
  rw [← this]; simp [bc, Lib.byteCells]; rfl
theorem dig_formed (d : List UInt8) (hd : d.length = 32) : (Value.agg (bc d)).formed Tryd.prog 23 = true := by
  simp only [Value.formed, Tryd.underlying23, bc_size, hd]; kernel_rfl
theorem lits_inj (a b : List UInt8) (h : (a.map fun b => (b.toNat : Int)).map (Lit.int .u8) = (b.map fun b => (b.toNat : Int)).map (Lit.int .u8)) : a = b := by
  rw [List.map_map, List.map_map] at h
  refine List.map_inj_right (f := fun b : UInt8 => Lit.int .u8 (b.toNat : Int)) (fun x y hxy => ?_) |>.1 h
  injection hxy with _ h2
  exact UInt8.toNat_inj.1 (by omega)
theorem dig_eq (a b : List UInt8) (ha : a.length = 32) (hb : b.length = 32) (w : World) : (binOp .eql 23 (.agg (bc a)) (.agg (bc b))).run Tryd.prog w = .ok (.bool (decide (a = b))) w := by
  obtain ⟨r, hr, hiff⟩ := run_equalIn_deep (P := Tryd.prog) (10000 - 2) 2 23 (by kernel_rfl) w 2 2 (.agg (bc a)) (.agg (bc b)) _ _ (dig_formed a ha) (dig_formed b hb) (dig_lits a ha) (dig_lits b hb)
  rw [show 10000 - 2 + 2 = 10000 by omega] at hr
  have : r = decide (a = b) := by
    by_cases h : a = b
    · rw [decide_eq_true h]; exact hiff.2 (by rw [h])
    · rw [decide_eq_false h]
      cases r with
      | false => rfl
      | true => exact absurd (lits_inj a b (hiff.1 rfl)) h
  rw [run_eql_struct, hr, this]; rfl
end Go.Proofs.YtlicadfbkjhihaaDoor

namespace Go.Proofs.YtlicadfbkjhihaaDoor
open Go Go.RowKit
set_option linter.unusedSimpArgs false
set_option linter.unusedVariables false

def pProves (root leaf : List UInt8) (x : Nat) (ds : List (List UInt8)) : Bool := decide (ds.length = 32) && decide (pClimb leaf x ds 32 = root)
end Go.Proofs.YtlicadfbkjhihaaDoor

namespace Go.Proofs.YtlicadfbkjhihaaDoor
open Go.RowKit
set_option linter.unusedSimpArgs false
set_option linter.unusedVariables false

theorem repl_getD (n j : Nat) (h : j < n) : (List.replicate n (0 : UInt8)).getD j 0 = 0 := by
  rw [List.getD_eq_getElem?_getD, List.getElem?_replicate, if_pos h]; rfl
/-- A new list of digests, all noughts. -/
theorem make_digests (n : Nat) (h : n ≤ 4294967296) (w : World) : (Instr.makeSlice 24 (.int .i64 (n : Int)) (.int .i64 (n : Int))).run Tryd.prog w = .ok (.slice (some ⟨w.heap.size, 0, none⟩) n n) (w.alloc (.cells (bc (List.replicate (32 * n) 0)) 23)) := by
  obtain ⟨i, hi⟩ : ∃ i, Tryd.prog.info? 23 = some i := by
    cases hq : Tryd.prog.info? 23 with
    | none => exact absurd hq (by rw [show Tryd.prog.info? 23 = some ((Tryd.prog.info? 23).getD default) by kernel_rfl]; simp)
    | some i => exact ⟨i, rfl⟩
  have e : (Tryd.prog.info? 23).map (fun i => (i.zero, i.size, i.bytes)) = some (some (.agg (bc (List.replicate 32 0))), 32, 32) := by kernel_rfl
  rw [hi] at e
  simp only [Option.map_some, Option.some.injEq, Prod.mk.injEq] at e
  obtain ⟨e1, e2, e3⟩ := e
  have := run_make (P := Tryd.prog) w 24 23 i (.agg (bc (List.replicate 32 0))) Tryd.underlying24 hi e1 .i64 .i64 n n (by omega) (by omega) (by rw [e3]; omega) (by omega)
  rw [this, e2]
  simp only [Int.toNat_natCast]
  rw [show (Value.agg (bc (List.replicate 32 0))).cells = bc (List.replicate 32 0) from rfl]
  have em : madeCells (bc (List.replicate 32 0)) (n * 32) = bc (List.replicate (32 * n) 0) := by
    apply Array.ext
    · simp [size_madeCells]; omega
    · intro j h1 h2
      have hz : ∀ r, r < 32 → (bc (List.replicate 32 0))[r]! = Value.int .u8 0 := fun r hr => by
        have hb := bc_at (List.replicate 32 0) r (by simpa using hr)
        rw [getElem!_def, hb, repl_getD 32 r hr]; rfl
      have h2' : j < 32 * n := by simpa using h2
      have hb2 := bc_at (List.replicate (32 * n) 0) j (by simpa using h2')
      have e2 : (bc (List.replicate (32 * n) 0))[j] = Value.int .u8 0 := by
        rw [Array.getElem?_eq_getElem h2] at hb2
        rw [Option.some.inj hb2, repl_getD (32 * n) j h2']; rfl
      rw [e2]
      simp only [madeCells, Array.getElem_map, Array.getElem_range]
      exact hz _ (by rw [bc_size, List.length_replicate]; omega)
  rw [em]

end Go.Proofs.YtlicadfbkjhihaaDoor

namespace Go.Proofs.YtlicadfbkjhihaaDoor
open Go Go.RowKit
set_option linter.unusedSimpArgs false
set_option linter.unusedVariables false

def aboveAt (ds : List (List UInt8)) (z : List UInt8) (i : Nat) : List UInt8 := pNode (ds.getD (2 * i) []) (pStand ds (2 * i + 1) z)
def pAbove (ds : List (List UInt8)) (z : List UInt8) : List (List UInt8) := (List.range ((ds.length + 1) / 2)).map (aboveAt ds z)
theorem aboveAt_length (ds : List (List UInt8)) (z : List UInt8) (i : Nat) : (aboveAt ds z i).length = 32 := pNode_length _ _
theorem pAbove_length (ds : List (List UInt8)) (z : List UInt8) : (pAbove ds z).length = (ds.length + 1) / 2 := by simp [pAbove]
theorem pAbove_at (ds : List (List UInt8)) (z : List UInt8) (i : Nat) (h : i < (ds.length + 1) / 2) : (pAbove ds z).getD i [] = aboveAt ds z i := by simp [pAbove, h]
theorem flat_len32 (f : Nat → List UInt8) (hf : ∀ j, (f j).length = 32) (k : Nat) : ((List.range k).flatMap f).length = 32 * k := by
  induction k with
  | zero => rfl
  | succ k ih => rw [List.range_succ, List.flatMap_append, List.length_append, ih]; simp [hf]; omega
theorem flat_at32 (f : Nat → List UInt8) (hf : ∀ j, (f j).length = 32) : ∀ k i, i < k → (((List.range k).flatMap f).drop (i * 32)).take 32 = f i
  | 0, i, h => by omega
  | k + 1, i, h => by
    rw [List.range_succ, List.flatMap_append]
    have hl := flat_len32 f hf k
    by_cases hik : i < k
    · rw [List.drop_append_of_le_length (by omega), List.take_append_of_le_length (by rw [List.length_drop]; omega)]
      exact flat_at32 f hf k i hik
    · obtain rfl : i = k := by omega
      rw [List.drop_append, List.drop_of_length_le (by omega), hl, show i * 32 - 32 * i = 0 by omega]
      simp [hf]
      exact List.take_of_length_le (by rw [hf]; exact Nat.le_refl _)
theorem DL.other {w w' : World} {p : Option Addr} {ds : List (List UInt8)} (h : DL w p ds) (hs : w'.heap.size = w.heap.size) (hk : ds ≠ [] → ∀ b off, p = some ⟨b, off, none⟩ → w'.heap[b]? = w.heap[b]?) : DL w' p ds := by
  refine ⟨h.1, fun hn => ?_⟩
  obtain ⟨b, off, rfl, hlt, hc⟩ := h.2 hn
  refine ⟨b, off, rfl, by omega, fun i hi j v hv => ?_⟩
  rw [← hc i hi j v hv]
  exact World.cell?_of_block (w := w) (hk hn b off rfl)
/-- The list lies in no block from N to N + 1. -/
def Far2 (N : Nat) (p : Option Addr) (ds : List (List UInt8)) : Prop := ds ≠ [] → ∀ b off, p = some ⟨b, off, none⟩ → b < N ∨ N + 1 < b
theorem far2_of {w : World} {p : Option Addr} {ds : List (List UInt8)} (h : DL w p ds) {N : Nat} (hN : w.heap.size ≤ N) : Far2 N p ds := fun hn b off e => by
  obtain ⟨b', off', e', hlt, _⟩ := h.2 hn
  rw [e'] at e
  simp at e
  omega
/-- A block of digests, as a list of them. -/
theorem DL_of_flat {w : World} {g : Nat} {t : TypeId} (f : Nat → List UInt8) (hf : ∀ j, (f j).length = 32) (m : Nat) (hg : w.heap[g]? = some (.cells (bc ((List.range m).flatMap f)) t (0, 0))) : DL w (some ⟨g, 0, none⟩) ((List.range m).map f) := by
  refine ⟨fun d hd => ?_, fun hn => ⟨g, 0, rfl, (Array.getElem?_eq_some_iff.1 hg).1, fun i hi => ?_⟩⟩
  · obtain ⟨j, _, rfl⟩ := List.mem_map.1 hd; exact hf j
  · have hi' : i < m := by simpa using hi
    have := bc_range w g (0 + i * 32) 32 _ t hg
    rw [Nat.zero_add] at this ⊢
    rw [flat_at32 f hf m i hi'] at this
    simpa [hi'] using this
end Go.Proofs.YtlicadfbkjhihaaDoor

namespace Go.Proofs.YtlicadfbkjhihaaDoor
open Go Go.RowKit
set_option linter.unusedSimpArgs false
set_option linter.unusedVariables false

set_option maxHeartbeats 4000000 in
set_option maxRecDepth 100000 in
theorem kabove_calls (ds : List (List UInt8)) (p : Option Addr) (cap : Nat) (hlen : ds.length ≤ 100000000) (w : World) (hD : DL w p ds) (tabs : Tabs w) :
    Calls Tryd.prog 33 #[.pointer none, .slice p ds.length cap] w fun e w' => (∃ g c, e = .returned (.slice (some ⟨g, 0, none⟩) (pUp ds).length c) ∧ (pUp ds).length ≤ c ∧ w.heap.size ≤ g ∧ DL w' (some ⟨g, 0, none⟩) (pUp ds)) ∧ Below w.heap.size w w' := by
  obtain ⟨m, hm⟩ : ∃ m, ds.length / 2 = m := ⟨_, rfl⟩
  have hmi : (ds.length : Int) / 2 = (m : Int) := by omega
  have hmt : (ds.length : Int).tdiv 2 = (m : Int) := by rw [Int.tdiv_eq_ediv_of_nonneg (by omega)]; exact hmi
  have mk := make_digests m (by omega)
  have A2 := hide (al1 w (.cells (bc (List.replicate (32 * m) 0)) 23))
  have B2 := hide ((Below.refl w.heap.size w).alloc (Nat.le_refl _) (.cells (bc (List.replicate (32 * m) 0)) 23))
  have HD := hide hD
  have HT := hide tabs
  have Hm := hide hm
  have Hlen := hide hlen
  rw [pUp_length, hm]
  clear hD tabs hm
  obtain ⟨F, hF⟩ : ∃ F, upAt ds = F := ⟨_, rfl⟩
  have HFl : Hid (∀ j, (F j).length = 32) := hide (by rw [← hF]; exact upAt_length ds)
  have HF := hide hF
  have hpa : Hid (pUp ds = (List.range m).map F) := hide (by unfold pUp; rw [unhide Hm, hF])
  rw [unhide hpa]
  clear hF
  go_enter Tryd.func33, Tryd.ntmps33
  go_wp2
  obtain ⟨N, hN⟩ : ∃ N, w.heap.size = N := ⟨_, rfl⟩
  have HN := hide hN
  go_loopw [13] (fun i wr => ∃ k : Nat, k ≤ m ∧ i = .int .i64 (k : Int) ∧ Below N w wr ∧ wr.heap[N]? = some (.cells (bc ((List.range k).flatMap F ++ List.replicate (32 * (m - k)) 0)) 23 (0, 0))) (fun i _ => m - (intOf i).toNat)
  case atStart =>
    subst hN
    refine ⟨0, by omega, rfl, unhide B2, ?_⟩
    simpa using (unhide A2)
  case round =>
    obtain ⟨k, hk, rfl, hb, q1⟩ := hrel
    rw [hN]
    clear A2 B2 mk hmi hmt
    by_cases hlt : k < m
    · have hd : decide (k < m) = true := by simpa using hlt
      have hmm := unhide Hm
      have hj : 2 * k < ds.length := by omega
      have hj1 : 2 * k + 1 < ds.length := by omega
      have hD0 := unhide HD
      obtain ⟨b, off, rfl, hlt2, hc⟩ := hD0.2 (by intro h; rw [h] at hj; simp at hj)
      have hr := rangeAt_below (hc _ hj) hb (by rw [← hN]; exact hlt2)
      have hr1 := rangeAt_below (hc _ hj1) hb (by rw [← hN]; exact hlt2)
      have hEl := hD0.len _ hj
      have hSl := hD0.len _ hj1
      have tb := (unhide HT).below hb (by rw [← hN]; exact Nat.le_refl _)
      have hz1 : N < wr.heap.size := (Array.getElem?_eq_some_iff.1 q1).1
      have hFk : F k = pOf 4 [ds.getD (2 * k) [], ds.getD (2 * k + 1) []] := by rw [← unhide HF]; rfl
      obtain ⟨j1, hjj1⟩ : ∃ j, 2 * k + 1 = j := ⟨_, rfl⟩
      obtain ⟨j, hjj⟩ : ∃ j, 2 * k = j := ⟨_, rfl⟩
      have ej : (2 : Int) * (k : Int) = (j : Int) := by omega
      have ej1 : (j : Int) + 1 = (j1 : Int) := by omega
      rw [hjj1] at hr1 hSl hFk
      rw [hjj] at hr hEl hFk
      obtain ⟨S, hS⟩ : ∃ S, ds.getD j1 [] = S := ⟨_, rfl⟩
      obtain ⟨E, hE⟩ : ∃ E, ds.getD j [] = E := ⟨_, rfl⟩
      rw [hS] at hr1 hSl hFk
      rw [hE] at hr hEl hFk
      have kN : Hid (∀ dd os, Calls Tryd.prog 51 #[.pointer none, .int .u8 4, .agg (bc E), .agg (bc S)] (Sort.grow (redrawn wr dd) os) fun e w'' => e = .returned (.agg (bc (F k))) ∧ ∃ p : Regrown, w'' = Sort.grow (redrawn wr p.d) p.os) := fun dd os => by
        rw [hFk]; exact Calls.regrown_of (twoD_calls 4 (by decide) E S hEl hSl _ (tb.below (below_regrown wr dd os) (Nat.le_refl _)))
      have RM : Hid (∀ w', (∃ p : Regrown, w' = Sort.grow (redrawn wr p.d) p.os) → w'.rangeAt b (off + j * 32) (Lib.byteCells E)) := fun w' ⟨p, hp⟩ => by
        rw [hp]; exact rangeAt_below hr (below_regrown wr p.d p.os) (by have := hb.size; omega)
      have RS : Hid (∀ w', (∃ p : Regrown, w' = Sort.grow (redrawn wr p.d) p.os) → w'.rangeAt b (off + j1 * 32) (Lib.byteCells S)) := fun w' ⟨p, hp⟩ => by
        rw [hp]; exact rangeAt_below hr1 (below_regrown wr p.d p.os) (by have := hb.size; omega)
      have hput : Hid (putAt ((List.range k).flatMap F ++ List.replicate (32 * (m - k)) 0) (k * 32) (F k) = (List.range (k + 1)).flatMap F ++ List.replicate (32 * (m - (k + 1))) 0) := by
        rw [putAt_zeros _ _ _ _ (by rw [flat_len32 F (unhide HFl)]; omega) (by rw [unhide HFl]; omega), unhide HFl, List.range_succ, List.flatMap_append]
        rw [show 32 * (m - k) - 32 = 32 * (m - (k + 1)) by omega]
        exact hide (by simp)
      have hll : Hid (k * 32 + (F k).length ≤ ((List.range k).flatMap F ++ List.replicate (32 * (m - k)) 0).length) := hide (by rw [List.length_append, flat_len32 F (unhide HFl), List.length_replicate, unhide HFl]; omega)
      have hiF := digInfo (F k) (unhide HFl k)
      have HEl := hide hEl
      have HSl := hide hSl
      have Q1 := hide q1
      have HB := hide hb
      have Hk := hide hlt
      have Hz1 := hide hz1
      have b1 : (0 : Int) ≤ j ∧ (j : Int) < ds.length := by omega
      have b3 : (0 : Int) ≤ j1 ∧ (j1 : Int) < ds.length := by omega
      have b2 : (0 : Int) ≤ k ∧ (k : Int) < m := by omega
      have wj : IntKind.i64.wrap (j : Int) = (j : Int) := wi64 _ (by omega) (by have := unhide Hlen; omega)
      have wj1 : IntKind.i64.wrap (j1 : Int) = (j1 : Int) := wi64 _ (by omega) (by have := unhide Hlen; omega)
      generalize F k = FK at *
      clear q1 hb hlt hz1 tb hFk hS hE hr hr1 hc hlt2 hD0 hEl hSl hjj hjj1 hj hj1 hmm
      go_wp2_with fail
      refine wp_region_below_tail 16 mixed (by kernel_rfl) ?_
      simp only [List.take_succ_cons, List.take_zero, List.drop_succ_cons, List.drop_zero]
      quiet_step (fail)
      quiet_step (fail)
      quiet_step (fail)
      quiet_step (fail)
      quiet_step (fail)
      quiet_step (fail)
      quiet_step (fail)
      refine wpQuiet_load_mid rfl 23 (.tmp 22) rfl b (off + j * 32) rfl (Lib.byteCells E) _ (unhide RM) Tryd.underlying23 rfl (by rw [Lib.byteCells_length, unhide HEl]; kernel_rfl) ?_
      quiet_step (fail)
      quiet_step (fail)
      quiet_step (fail)
      quiet_step (fail)
      quiet_step (fail)
      refine wpQuiet_load_mid rfl 23 (.tmp 28) rfl b (off + j1 * 32) rfl (Lib.byteCells S) _ (unhide RS) Tryd.underlying23 rfl (by rw [Lib.byteCells_length, unhide HSl]; kernel_rfl) ?_
      quiet_step (exact unhide kN _ _)
      quiet_step (fail)
      refine wpQuiet_nil ?_
      intro w2 hb2
      have p1 := Below.at hb2 (unhide Hz1) (unhide Q1)
      have bb : Below N w w2 := (unhide HB).trans (hb2.mono (by have := unhide Hz1; omega))
      have P1 := hide p1
      have BB := hide bb
      clear p1 bb hb2
      refine wpList_store_at rfl 23 (.tmp 31) (.tmp 30) rfl N (k * 32) _ FK 23 (by first | rfl | (simp; done)) rfl (unhide P1) (unhide hll) hiF ?_
      intro w3 r1 r2 r3 r4
      rw [unhide hput] at r1
      have P3 := hide r1
      have B3 := hide ((unhide BB).trans (r4 N (by omega)))
      clear r1 r2 r3 r4
      go_wp2
      exact ⟨⟨k + 1, by have := unhide Hk; omega, by go_num, unhide B3, unhide P3⟩, by have := unhide Hk; simp [intOf]; omega⟩
    · have hd : decide (k < m) = false := by simpa using hlt
      have hkl : k = m := by omega
      rw [hkl, Nat.sub_self, Nat.mul_zero, List.replicate_zero, List.append_nil] at q1
      have Q1 := hide q1
      have HB := hide hb
      clear q1 hb hkl hlt
      go_wp2
      go_ret
      refine ⟨⟨N, m, rfl, Nat.le_refl _, by rw [unhide HN]; omega, DL_of_flat F (unhide HFl) m (unhide Q1)⟩, by rw [unhide HN]; exact unhide HB⟩
end Go.Proofs.YtlicadfbkjhihaaDoor

namespace Go.Proofs.YtlicadfbkjhihaaDoor
open Go.RowKit
set_option linter.unusedSimpArgs false
set_option linter.unusedVariables false

/-- The word of publics, of all their bytes. -/
def pWordOf (L : List UInt8) : List UInt8 := pOf 3 [L]
theorem bc_extract (L : List UInt8) (o n : Nat) : (bc L).extract o (o + n) = bc ((L.drop o).take n) := by
  unfold bc Lib.byteCells
  simp [List.map_take, List.map_drop, List.extract_eq_take_drop]
theorem index_pair (L : List UInt8) (k : Nat) (hk : k < 32) (w : World) : (Instr.index 94 (.agg (bc L)) (.int .i64 (k : Int))).run Tryd.prog w = .ok (.agg (bc ((L.drop (64 * k)).take 64))) w := by
  have h1 : (isAgg 92).run Tryd.prog w = .ok true w := Tryd.isAgg92 w
  have h2 : (sizeOf 92).run Tryd.prog w = .ok 64 w := Tryd.sizeOf92 w
  have e := bc_extract L (64 * k) 64
  simp [Instr.index, asIntOf, run_underlying Tryd.underlying94, hk, part, h1, h2]
  rw [Nat.mul_comm k 64]; exact e
theorem index_one (L : List UInt8) (k : Nat) (hk : k < 2) (w : World) : (Instr.index 92 (.agg (bc L)) (.int .i64 (k : Int))).run Tryd.prog w = .ok (.agg (bc ((L.drop (32 * k)).take 32))) w := by
  have h1 : (isAgg 23).run Tryd.prog w = .ok true w := Tryd.isAgg23 w
  have h2 : (sizeOf 23).run Tryd.prog w = .ok 32 w := Tryd.sizeOf23 w
  have e := bc_extract L (32 * k) 32
  simp [Instr.index, asIntOf, run_underlying Tryd.underlying92, hk, part, h1, h2]
  rw [Nat.mul_comm k 32]; exact e
theorem pubsInfo (l : List UInt8) (h : l.length = 2048) : (Tryd.prog.info? 94).map (·.size) = some (bc l).size := by rw [bc_size, h]; kernel_rfl
theorem pairInfo (l : List UInt8) (h : l.length = 64) : (Tryd.prog.info? 92).map (·.size) = some (bc l).size := by rw [bc_size, h]; kernel_rfl
theorem zeroSize64 (l : List UInt8) (h : l.length = 64) : (bc (List.replicate 64 (0 : UInt8))).size = (bc l).size := by rw [bc_size, bc_size, h]; rfl
theorem take_chunk (L : List UInt8) (a n : Nat) : L.take (a + n) = L.take a ++ (L.drop a).take n := List.take_add
set_option maxHeartbeats 4000000 in
set_option maxRecDepth 100000 in
theorem wordOf_calls (L : List UInt8) (hL : L.length = 2048) (w : World) (tabs : Tabs w) :
    Calls Tryd.prog 50 #[.agg (bc L), .pointer none] w fun e w' => e = .returned (.agg (bc (pWordOf L))) ∧ Below w.heap.size w w' := by
  have co := fun g w hs tabs => ofNil_calls 3 (by decide) [L] (by simp; omega) (by simp) (some ⟨g, 0, none⟩) 1 w hs tabs
  have hD := pOf_length 3 [L]
  have hi1 := digInfo (pOf 3 [L]) hD
  have hz1 := zeroSize (pOf 3 [L]) hD
  have ho1 := bc_oneCell (pOf 3 [L])
  have hiL := pubsInfo L hL
  show Calls _ _ _ _ fun e w' => e = .returned (.agg (bc (pOf 3 [L]))) ∧ _
  generalize pOf 3 [L] = D at *
  have CO := hide co
  have HT := hide tabs
  clear co tabs
  go_enter Tryd.func50, Tryd.ntmps50
  have hA := al2 w (.cells (bc L) 94) (.cells (bc (List.replicate 32 0)) 23)
  have hbA := bel2 w (.cells (bc L) 94) (.cells (bc (List.replicate 32 0)) 23)
  have hbld := Lib.IsBuilderF.of (Lib.fresh_isBuilder 115 5 ((w.alloc (.cells (bc L) 94)).alloc (.cells (bc (List.replicate 32 0)) 23)))
  go_wp2_with (refine wpList_load_row rfl 94 (.tmp 2) rfl w.heap.size rfl 94 _ (0, 0) _ ((Below.heap_alloc _ _ _ (by simp; omega)).trans hA.1) Tryd.underlying94 rfl hiL ?_)
  have hszX : ((w.alloc (.cells (bc L) 94)).alloc (.cells (bc (List.replicate 32 0)) 23)).heap.size = w.heap.size + 1 + 1 := by simp
  have hb00 := (Below.refl ((w.alloc (.cells (bc L) 94)).alloc (.cells (bc (List.replicate 32 0)) 23)).heap.size ((w.alloc (.cells (bc L) 94)).alloc (.cells (bc (List.replicate 32 0)) 23))).alloc (Nat.le_refl _) (.cells #[.pointer none, .slice none 0 0] 115)
  rw [hszX] at hbld hb00
  generalize hX : ((w.alloc (.cells (bc L) 94)).alloc (.cells (bc (List.replicate 32 0)) 23)) = X at hbld hb00 hA hbA hszX
  have hq0 := hA.2
  have HbX := hide hbA
  have hb0' := hide hb00
  have hbld' := hide hbld
  have HQ0 := hide hq0
  have HszX := hide hszX
  have HX := hide hX
  clear hA hbA hb00 hbld hq0 hX hszX
  go_loopw [7, 9, 11] (fun _ _ i wr => ∃ k : Nat, k ≤ 32 ∧ i = .int .i64 (k : Int) ∧ Lib.IsBuilderF 115 5 (w.heap.size + 1 + 1) (w.heap.size + 1 + 1) (Lib.byteCells (L.take (64 * k))) wr ∧ Below (w.heap.size + 1 + 1) X wr) (fun _ _ i _ => 32 - (intOf i).toNat)
  case atStart =>
    have h1 := unhide hbld'
    have h2 := unhide hb0'
    rw [← unhide HX] at h1
    rw [← unhide HX] at h2 ⊢
    exact ⟨0, by omega, rfl, by rw [Nat.mul_zero, List.take_zero]; exact h1, h2⟩
  case round =>
    clear hb0' hbld'
    obtain ⟨k, hk, rfl, hB, hb⟩ := hrel
    have hzw : w.heap.size + 1 + 1 ≤ wr.heap.size := by have := hb.size; rw [unhide HszX] at this; exact this
    by_cases hlt : k < 32
    · have hd1 : decide ((k : Int) < 32) = true := by simp; omega
      have hix := fun w => index_pair L k hlt w
      have hC : ((L.drop (64 * k)).take 64).length = 64 := by rw [List.length_take, List.length_drop]; omega
      have hsub : ∀ j, j < 2 → L.take (64 * k + 32 * (j + 1)) = L.take (64 * k + 32 * j) ++ ((((L.drop (64 * k)).take 64).drop (32 * j)).take 32) := fun j hj => by
        rw [show 64 * k + 32 * (j + 1) = (64 * k + 32 * j) + 32 by omega, take_chunk, List.drop_take, List.drop_drop, List.take_take, Nat.min_eq_left (by omega)]
      generalize hCC : (L.drop (64 * k)).take 64 = C at *
      have hi2 := pairInfo C hC
      have ho2 := bc_oneCell C
      have hz2 := zeroSize64 C hC
      have Hsub := hide hsub
      have Hix := hide hix
      clear hsub hCC
      have hix := unhide Hix
      go_wp2_with (first
        | (refine wpList_store_row rfl 92 (.tmp 7) (.tmp 13) rfl wr.heap.size _ rfl rfl 92 _ (al1 _ _) hi2 hz2 ho2 ?_)
        | (refine wpList_load_row rfl 92 (.tmp 7) rfl wr.heap.size rfl 92 _ (0, 0) _ (setRow_heap _ _ _ (bc C) _ _ (al1 wr (.cells (bc (List.replicate 64 0)) 92))) Tryd.underlying92 rfl hi2 ?_))
      have hw1 := below_setRow ((Below.refl wr.heap.size wr).alloc (Nat.le_refl _) (.cells (bc (List.replicate 64 0)) 92)) (Nat.le_refl _) (bc C)
      have hB1 := hide (isBuilder_below hB hw1)
      have hb1 := hide (hb.trans (hw1.mono hzw))
      clear hix hw1 hi2 ho2 hz2
      go_loopw [9, 15] (fun _ b wr2 => ∃ j : Nat, j ≤ 2 ∧ b = .int .i64 (j : Int) ∧ Lib.IsBuilderF 115 5 (w.heap.size + 1 + 1) (w.heap.size + 1 + 1) (Lib.byteCells (L.take (64 * k + 32 * j))) wr2 ∧ Below (w.heap.size + 1 + 1) X wr2) (fun _ b _ => 2 - (intOf b).toNat)
      case atStart => exact ⟨0, by omega, rfl, by rw [Nat.mul_zero, Nat.add_zero]; exact unhide hB1, unhide hb1⟩
      case round =>
        clear hB1 hb1 hB hb hzw
        obtain ⟨j, hj, rfl, hB, hb⟩ := hrel
        have hzw : w.heap.size + 1 + 1 ≤ wr.heap.size := by have := hb.size; rw [unhide HszX] at this; exact this
        by_cases hjl : j < 2
        · have hd2 : decide ((j : Int) < 2) = true := by simp; omega
          have hix := fun w => index_one C j hjl w
          have hE : ((C.drop (32 * j)).take 32).length = 32 := by rw [List.length_take, List.length_drop]; omega
          have hnew := unhide Hsub j hjl
          have hlen : (L.take (64 * k + 32 * j)).length ≤ 2048 := by rw [List.length_take]; omega
          generalize (C.drop (32 * j)).take 32 = E at *
          generalize L.take (64 * k + 32 * j) = acc at *
          have hi2 := digInfo E hE
          have ho2 := bc_oneCell E
          have hz2 := zeroSize E hE
          have cE := fun w => wdigest_calls E hE w
          have Hnew := hide hnew
          clear hnew
          go_wp2_with (first
            | (refine wpList_store_row rfl 23 (.tmp 9) (.tmp 17) rfl wr.heap.size _ rfl rfl 23 _ (al1 _ _) hi2 hz2 ho2 ?_)
            | (refine wpList_load_row rfl 23 (.tmp 9) rfl wr.heap.size rfl 23 _ (0, 0) _ (setRow_heap _ _ _ (bc E) _ _ (al1 wr (.cells (bc (List.replicate 32 0)) 23))) Tryd.underlying23 rfl hi2 ?_))
          have hw1 := below_setRow ((Below.refl wr.heap.size wr).alloc (Nat.le_refl _) (.cells (bc (List.replicate 32 0)) 23)) (Nat.le_refl _) (bc E)
          have hB1 := isBuilder_below hB hw1
          have hb1 := hb.trans (hw1.mono hzw)
          refine (cE _).mono ?_
          rintro e w3 ⟨rfl, b3⟩
          have hB3 := isBuilder_below hB1 b3
          have hz3 : w.heap.size + 1 + 1 ≤ w3.heap.size := by have := b3.size; rw [setRow_size, World.size_alloc] at this; omega
          have hb3 := hb1.trans (b3.mono (by rw [setRow_size, World.size_alloc]; omega))
          clear hB1 hb1 b3 hw1 hB hb
          go_wp2_with fail
          refine (writeString_calls (w.heap.size + 1 + 1) (w.heap.size + 1 + 1) _ _ _ hB3 (by rw [str_size, Lib.byteCells_length]; omega) hz3).mono ?_
          rintro e w4 ⟨rfl, h4, b4, k4⟩
          rw [strCells_str, ← Lib.byteCells_append] at h4
          go_wp2
          go_roundw
          case rel => exact ⟨j + 1, by omega, by go_num, by rw [unhide Hnew]; exact Or.inr h4, hb3.trans b4⟩
          case measure => simp [intOf]; omega
        · have hd2 : decide ((j : Int) < 2) = false := by simp; omega
          have hj2 : 64 * k + 32 * j = 64 * (k + 1) := by omega
          rw [hj2] at hB
          clear hj2
          go_wp2
          go_roundw
          case rel => exact ⟨k + 1, by omega, by go_num, hB, hb⟩
          case measure => simp [intOf]; omega
    · have hd1 : decide ((k : Int) < 32) = false := by simp; omega
      rw [List.take_of_length_le (by omega)] at hB
      go_wp2_with fail
      refine (string_calls (w.heap.size + 1 + 1) (w.heap.size + 1 + 1) L _ hB hzw).mono ?_
      rintro e w3 ⟨rfl, _, b3, _⟩
      have hb3 := hb.trans b3
      have q3 := Below.at hb3 (by omega) (unhide HQ0)
      have z3 : w.heap.size + 1 + 1 ≤ w3.heap.size := Nat.le_trans hzw b3.size
      have hw3 : Below w.heap.size w w3 := (unhide HbX).trans (hb3.mono (by omega))
      clear hB hb b3 hb3
      go_wp2_with fail
      refine (unhide CO _ _ (strsAt_one w3 L _) (((unhide HT).below hw3 (Nat.le_refl _)).below' ((Below.refl _ w3).alloc (Nat.le_refl _) _))).mono ?_
      rintro e w4 ⟨rfl, b4⟩
      have q4 := Below.at b4 (by simp; omega) ((Below.heap_alloc w3 (.cells #[.string (str L)] 9) _ (by omega)).trans q3)
      have hw4 : Below w.heap.size w w4 := (hw3.alloc (by omega) _).trans (b4.mono (by simp; omega))
      clear q3 hw3 b4
      go_wp2_with (refine wpList_store_row rfl 23 (.tmp 4) (.tmp 26) rfl (w.heap.size + 1) _ rfl rfl 23 _ q4 hi1 hz1 ho1 ?_)
      exact bodyPost_ret (results_cell_row rfl _ _ (w.heap.size + 1) _ _ _ _ rfl (setRow_heap _ _ _ _ _ _ q4) Tryd.underlying23 rfl hi1) rfl ⟨rfl, below_setRow hw4 (by omega) _⟩
end Go.Proofs.YtlicadfbkjhihaaDoor

namespace Go.Proofs.YtlicadfbkjhihaaDoor
open Go Go.RowKit
set_option linter.unusedSimpArgs false
set_option linter.unusedVariables false

/-- A key's public, by its number: two a place. -/
def pubAt (seed : List UInt8) (index j : Nat) : List UInt8 := pPublic (pSecret seed index (j / 2) (j % 2))
def pubs (seed : List UInt8) (index k : Nat) : List UInt8 := (List.range k).flatMap (pubAt seed index)
def pWord (seed : List UInt8) (index : Nat) : List UInt8 := pWordOf (pubs seed index 64)
theorem flat32 (f : Nat → List UInt8) (hf : ∀ j, (f j).length = 32) (k : Nat) : ((List.range k).flatMap f).length = 32 * k := by
  induction k with
  | zero => rfl
  | succ k ih => rw [List.range_succ, List.flatMap_append, List.length_append, ih]; simp [hf]; omega
theorem pubs_length (seed : List UInt8) (index k : Nat) : (pubs seed index k).length = 32 * k := flat32 _ (fun j => pPublic_length _) k
theorem pubs_succ (seed : List UInt8) (index k : Nat) : pubs seed index (k + 1) = pubs seed index k ++ pubAt seed index k := by
  unfold pubs; rw [List.range_succ, List.flatMap_append]; simp
theorem zero84 : Tryd.zeroCells94 = bc (List.replicate 2048 0) := by kernel_rfl
theorem pubs_put (seed : List UInt8) (index i j : Nat) (hi : i < 32) (hj : j < 2) : putAt (pubs seed index (2 * i + j) ++ List.replicate (2048 - 32 * (2 * i + j)) 0) (i * 64 + j * 32) (pPublic (pSecret seed index i j)) = pubs seed index (2 * i + (j + 1)) ++ List.replicate (2048 - 32 * (2 * i + (j + 1))) 0 := by
  rw [putAt_zeros _ _ _ _ (by rw [pubs_length]; omega) (by rw [pPublic_length]; omega), pPublic_length, show 2 * i + (j + 1) = (2 * i + j) + 1 by omega, pubs_succ]
  have e : pubAt seed index (2 * i + j) = pPublic (pSecret seed index i j) := by
    unfold pubAt
    rw [show (2 * i + j) / 2 = i by omega, show (2 * i + j) % 2 = j by omega]
  rw [e, show 2048 - 32 * (2 * i + j) - 32 = 2048 - 32 * (2 * i + j + 1) by omega]
set_option maxHeartbeats 4000000 in
set_option maxRecDepth 100000 in
theorem word_calls (seed : List UInt8) (hs : seed.length = 32) (x : Int) (index : Nat) (hx : x % 4294967296 = (index : Int)) (w : World) (tabs : Tabs w) :
    Calls Tryd.prog 31 #[.pointer none, .agg (bc seed), .int .i64 x] w fun e w' => e = .returned (.agg (bc (pWord seed index))) ∧ Below w.heap.size w w' := by
  have hW : (pWord seed index).length = 32 := pOf_length _ _
  have hi1 := digInfo (pWord seed index) hW
  have hz1 := zeroSize (pWord seed index) hW
  have ho1 := bc_oneCell (pWord seed index)
  have hi0 := digInfo seed hs
  have cW := fun w tabs => wordOf_calls (pubs seed index 64) (pubs_length _ _ _) w tabs
  have e1 : pWordOf (pubs seed index 64) = pWord seed index := rfl
  rw [e1] at cW
  have hiP := pubsInfo (pubs seed index 64) (pubs_length _ _ _)
  have cS := fun i b hi hb w tabs => secret_calls seed hs x index i b hx hi hb w tabs
  have HPut := hide (pubs_put seed index)
  generalize pWord seed index = D at *
  have HT := hide tabs
  have HiP := hide hiP
  have CW := hide cW
  have CS := hide cS
  have hA := al2 w (.cells (bc seed) 23) (.cells (bc (List.replicate 32 0)) 23)
  have hbA := bel2 w (.cells (bc seed) 23) (.cells (bc (List.replicate 32 0)) 23)
  have hsX : ((w.alloc (.cells (bc seed) 23)).alloc (.cells (bc (List.replicate 32 0)) 23)).heap.size = w.heap.size + 1 + 1 := by simp
  have HA := hide hA
  have HbA := hide hbA
  have HsX := hide hsX
  clear tabs hiP cW cS e1 hA hbA hsX
  go_enter Tryd.func31, Tryd.ntmps31
  go_wp2
  rw [zero84]
  go_loopw [8, 9, 10] (fun _ _ i wr => ∃ k : Nat, k ≤ 32 ∧ i = .int .i64 (k : Int) ∧ wr.heap[w.heap.size + 1 + 1]? = some (.cells (bc (pubs seed index (2 * k) ++ List.replicate (2048 - 32 * (2 * k)) 0)) 94 (0, 0)) ∧ Below (w.heap.size + 1 + 1) ((w.alloc (.cells (bc seed) 23)).alloc (.cells (bc (List.replicate 32 0)) 23)) wr) (fun _ _ i _ => 32 - (intOf i).toNat)
  case atStart =>
    refine ⟨0, by omega, rfl, ?_, ?_⟩
    · have := al1 ((w.alloc (.cells (bc seed) 23)).alloc (.cells (bc (List.replicate 32 0)) 23)) (.cells (bc (List.replicate 2048 0)) 94)
      rw [unhide HsX] at this
      exact this
    · have := (Below.refl ((w.alloc (.cells (bc seed) 23)).alloc (.cells (bc (List.replicate 32 0)) 23)).heap.size ((w.alloc (.cells (bc seed) 23)).alloc (.cells (bc (List.replicate 32 0)) 23))).alloc (Nat.le_refl _) (.cells (bc (List.replicate 2048 0)) 94)
      rw [unhide HsX] at this
      exact this
  case round =>
    obtain ⟨k, hk, rfl, q, hb⟩ := hrel
    by_cases hlt : k < 32
    · have hd1 : decide ((k : Int) < 32) = true := by simp; omega
      have Q := hide q
      have HB := hide hb
      clear q hb
      go_wp2
      go_loopw [9, 13] (fun _ b wr2 => ∃ j : Nat, j ≤ 2 ∧ b = .int .i64 (j : Int) ∧ wr2.heap[w.heap.size + 1 + 1]? = some (.cells (bc (pubs seed index (2 * k + j) ++ List.replicate (2048 - 32 * (2 * k + j)) 0)) 94 (0, 0)) ∧ Below (w.heap.size + 1 + 1) ((w.alloc (.cells (bc seed) 23)).alloc (.cells (bc (List.replicate 32 0)) 23)) wr2) (fun _ b _ => 2 - (intOf b).toNat)
      case atStart => exact ⟨0, by omega, rfl, unhide Q, unhide HB⟩
      case round =>
        clear Q HB
        obtain ⟨j, hj, rfl, q, hb⟩ := hrel
        by_cases hjl : j < 2
        · have hd2 : decide ((j : Int) < 2) = true := by simp; omega
          have hput := unhide HPut k j hlt hjl
          have hll : (pubs seed index (2 * k + j) ++ List.replicate (2048 - 32 * (2 * k + j)) 0).length = 2048 := by
            rw [List.length_append, pubs_length, List.length_replicate]; omega
          have hw : Below w.heap.size w wr := (unhide HbA).trans (hb.mono (by omega))
          have tb := (unhide HT).below hw (Nat.le_refl _)
          have hz : w.heap.size + 1 + 1 < wr.heap.size := (Array.getElem?_eq_some_iff.1 q).1
          have kS : Hid (∀ dd os, Calls Tryd.prog 49 #[.pointer none, .agg (bc seed), .int .i64 x, .int .i64 (k : Int), .int .i64 (j : Int)] (Sort.grow (redrawn wr dd) os) fun e w'' => e = .returned (.agg (bc (pSecret seed index k j))) ∧ ∃ p : Regrown, w'' = Sort.grow (redrawn wr p.d) p.os) := fun dd os => Calls.regrown_of (unhide CS k j (by omega) (by omega) _ (tb.below (below_regrown wr dd os) (Nat.le_refl _)))
          have kP : Hid (∀ dd os, Calls Tryd.prog 48 #[.pointer none, .agg (bc (pSecret seed index k j))] (Sort.grow (redrawn wr dd) os) fun e w'' => e = .returned (.agg (bc (pPublic (pSecret seed index k j)))) ∧ ∃ p : Regrown, w'' = Sort.grow (redrawn wr p.d) p.os) := fun dd os => Calls.regrown_of (public_calls _ (pSecret_length _ _ _ _) _ (tb.below (below_regrown wr dd os) (Nat.le_refl _)))
          have q0 := Below.at hb (by omega) (unhide HA).1
          have rowD : Hid (∀ w', (∃ p : Regrown, w' = Sort.grow (redrawn wr p.d) p.os) → w'.heap[w.heap.size]? = some (.cells (bc seed) 23 (0, 0))) := fun w' ⟨p, hp⟩ => by
            rw [hp]; exact Below.at (below_regrown wr p.d p.os) (by omega) q0
          have hDl : (pPublic (pSecret seed index k j)).length = 32 := pPublic_length _
          have hi2 := digInfo (pPublic (pSecret seed index k j)) hDl
          generalize pPublic (pSecret seed index k j) = PD at *
          generalize pSecret seed index k j = SD at *
          generalize pubs seed index (2 * k + j) ++ List.replicate (2048 - 32 * (2 * k + j)) 0 = L at *
          have b1 : (0 : Int) ≤ k ∧ (k : Int) < 32 := by omega
          have b2 : (0 : Int) ≤ j ∧ (j : Int) < 2 := by omega
          have Q := hide q
          have HB := hide hb
          have HPt := hide hput
          clear q hb hput tb hw q0
          go_wp2_with fail
          refine wp_region_below_tail 12 mixed (by kernel_rfl) ?_
          simp only [List.take_succ_cons, List.take_zero, List.drop_succ_cons, List.drop_zero]
          quiet_step (fail)
          quiet_step (fail)
          quiet_step (fail)
          quiet_step (fail)
          refine wpQuiet_load_row rfl 23 (.tmp 4) rfl w.heap.size rfl 23 _ (0, 0) _ (unhide rowD) Tryd.underlying23 rfl hi0 ?_
          quiet_step (fail)
          quiet_step (fail)
          quiet_step (fail)
          quiet_step (exact unhide kS _ _)
          quiet_step (exact unhide kP _ _)
          quiet_step (fail)
          quiet_step (fail)
          refine wpQuiet_nil ?_
          intro w3 hb3
          have q3 := Below.at hb3 hz (unhide Q)
          have hb5 := (unhide HB).trans (hb3.mono (Nat.le_of_lt hz))
          clear hb3
          go_wp2_with (refine wpList_store_at rfl 23 (.tmp 27) (.tmp 25) rfl (w.heap.size + 1 + 1) (k * 64 + j * 32) L PD 94 rfl rfl q3 (by rw [hDl, hll]; omega) hi2 ?_; intro w4 q4 ho4 hs4 hb4)
          rw [unhide HPt] at q4
          have hb6 := hb5.trans (hb4 _ (Nat.le_refl _))
          have Q4 := hide q4
          have HB6 := hide hb6
          clear q4 ho4 hs4 hb4 hb5 q3 hb6
          go_wp2
          go_roundw
          case rel => exact ⟨j + 1, by omega, by go_num, unhide Q4, unhide HB6⟩
          case measure => simp [intOf]; omega
        · have hd2 : decide ((j : Int) < 2) = false := by simp; omega
          have hj2 : j = 2 := by omega
          subst hj2
          have Q := hide q
          have HB := hide hb
          clear q hb
          go_wp2
          go_roundw
          case rel => exact ⟨k + 1, by omega, by go_num, unhide Q, unhide HB⟩
          case measure => simp [intOf]; omega
    · have hd1 : decide ((k : Int) < 32) = false := by simp; omega
      have hk32 : k = 32 := by omega
      subst hk32
      have ee : pubs seed index (2 * 32) ++ List.replicate (2048 - 32 * (2 * 32)) 0 = pubs seed index 64 := by simp
      rw [ee] at q
      have hiP := unhide HiP
      have cW := unhide CW
      have hw : Below w.heap.size w wr := (unhide HbA).trans (hb.mono (by omega))
      have tb := (unhide HT).below hw (Nat.le_refl _)
      have hz : w.heap.size + 1 + 1 < wr.heap.size := (Array.getElem?_eq_some_iff.1 q).1
      have q1 := Below.at hb (by omega) (unhide HA).2
      generalize pubs seed index 64 = L at *
      have CW2 := hide cW
      clear hb ee CW cW CS HPut
      go_wp2_with (refine wpList_load_row rfl 94 (.tmp 7) rfl (w.heap.size + 1 + 1) rfl 94 _ (0, 0) _ q Tryd.underlying94 rfl hiP ?_)
      refine (unhide CW2 _ tb).mono ?_
      rintro e w3 ⟨rfl, b3⟩
      have q3 := Below.at b3 (by omega) q1
      have hw3 := hw.trans (b3.mono (by omega))
      clear b3 q1 q tb
      go_wp2_with (refine wpList_store_row rfl 23 (.tmp 6) (.tmp 32) rfl (w.heap.size + 1) _ rfl rfl 23 _ q3 hi1 hz1 ho1 ?_)
      exact bodyPost_ret (results_cell_row rfl _ _ (w.heap.size + 1) _ _ _ _ rfl (setRow_heap _ _ _ _ _ _ q3) Tryd.underlying23 rfl hi1) rfl ⟨rfl, below_setRow hw3 (by omega) _⟩
end Go.Proofs.YtlicadfbkjhihaaDoor

namespace Go.Proofs.YtlicadfbkjhihaaDoor
open Go Go.RowKit
set_option linter.unusedSimpArgs false
set_option linter.unusedVariables false

def partAt (seed : List UInt8) (index : Nat) (d : List UInt8) (i : Nat) : List UInt8 := pSecret seed index i (pBit d i)
def otherAt (seed : List UInt8) (index : Nat) (d : List UInt8) (i : Nat) : List UInt8 := pPublic (pSecret seed index i (1 - pBit d i))
def pParts (seed : List UInt8) (index : Nat) (d : List UInt8) (k : Nat) : List UInt8 := (List.range k).flatMap (partAt seed index d)
def pOthers (seed : List UInt8) (index : Nat) (d : List UInt8) (k : Nat) : List UInt8 := (List.range k).flatMap (otherAt seed index d)
theorem pParts_length (seed : List UInt8) (index : Nat) (d : List UInt8) (k : Nat) : (pParts seed index d k).length = 32 * k := flat32 _ (fun j => pSecret_length _ _ _ _) k
theorem pOthers_length (seed : List UInt8) (index : Nat) (d : List UInt8) (k : Nat) : (pOthers seed index d k).length = 32 * k := flat32 _ (fun j => pPublic_length _) k
theorem flat_put (f : Nat → List UInt8) (hf : ∀ j, (f j).length = 32) (k : Nat) (hk : k < 32) : putAt ((List.range k).flatMap f ++ List.replicate (1024 - 32 * k) 0) (k * 32) (f k) = (List.range (k + 1)).flatMap f ++ List.replicate (1024 - 32 * (k + 1)) 0 := by
  rw [putAt_zeros _ _ _ _ (by rw [flat32 f hf]; omega) (by rw [hf]; omega), hf, List.range_succ, List.flatMap_append]
  rw [show 1024 - 32 * k - 32 = 1024 - 32 * (k + 1) by omega]
  simp
set_option maxHeartbeats 4000000 in
set_option maxRecDepth 100000 in
theorem sign_calls (seed : List UInt8) (hs : seed.length = 32) (d : List UInt8) (hd : d.length = 32) (x : Int) (index : Nat) (hx : x % 4294967296 = (index : Int)) (w : World) (tabs : Tabs w) :
    Calls Tryd.prog 52 #[.pointer none, .agg (bc seed), .int .i64 x, .agg (bc d)] w fun e w' => ∃ g : Nat, w.heap.size ≤ g ∧ e = .returned (.tuple #[.slice (some ⟨g, 0, none⟩) 32 32, .slice (some ⟨g + 1, 0, none⟩) 32 32]) ∧ Below w.heap.size w w' ∧ w'.heap[g]? = some (.cells (bc (pParts seed index d 32)) 23 (0, 0)) ∧ w'.heap[g + 1]? = some (.cells (bc (pOthers seed index d 32)) 23 (0, 0)) := by
  have hi0 := digInfo seed hs
  have hi1 := digInfo d hd
  have cS := fun i b hi hb w tabs => secret_calls seed hs x index i b hx hi hb w tabs
  have cB := fun i hi w => bit_calls d hd i hi w
  have HPut := hide (flat_put (partAt seed index d) (fun j => pSecret_length _ _ _ _))
  have HPuo := hide (flat_put (otherAt seed index d) (fun j => pPublic_length _))
  have mk : ∀ w, (Instr.makeSlice 24 (.int .i64 32) (.int .i64 32)).run Tryd.prog w = .ok (.slice (some ⟨w.heap.size, 0, none⟩) 32 32) (w.alloc (.cells (bc (List.replicate (32 * 32) 0)) 23)) := fun w => make_digests 32 (by omega) w
  have HT := hide tabs
  have CS := hide cS
  have CB := hide cB
  have hA := al2 w (.cells (bc seed) 23) (.cells (bc d) 23)
  have hbA := bel2 w (.cells (bc seed) 23) (.cells (bc d) 23)
  have hsX : ((w.alloc (.cells (bc seed) 23)).alloc (.cells (bc d) 23)).heap.size = w.heap.size + 1 + 1 := by simp
  have hA2 := al2 ((w.alloc (.cells (bc seed) 23)).alloc (.cells (bc d) 23)) (.cells (bc (List.replicate (32 * 32) 0)) 23) (.cells (bc (List.replicate (32 * 32) 0)) 23)
  have hbA2 := bel2 ((w.alloc (.cells (bc seed) 23)).alloc (.cells (bc d) 23)) (.cells (bc (List.replicate (32 * 32) 0)) 23) (.cells (bc (List.replicate (32 * 32) 0)) 23)
  rw [hsX] at hA2 hbA2
  have HA := hide hA
  have HbA := hide hbA
  have HA2 := hide hA2
  have HbA2 := hide hbA2
  clear tabs cS cB hA hbA hsX hA2 hbA2
  go_enter Tryd.func52, Tryd.ntmps52
  go_wp2
  go_loopw [12, 13, 16] (fun _ _ i wr => ∃ k : Nat, k ≤ 32 ∧ i = .int .i64 (k : Int) ∧ wr.heap[w.heap.size + 1 + 1]? = some (.cells (bc (pParts seed index d k ++ List.replicate (1024 - 32 * k) 0)) 23 (0, 0)) ∧ wr.heap[w.heap.size + 1 + 1 + 1]? = some (.cells (bc (pOthers seed index d k ++ List.replicate (1024 - 32 * k) 0)) 23 (0, 0)) ∧ Below (w.heap.size + 1 + 1) ((w.alloc (.cells (bc seed) 23)).alloc (.cells (bc d) 23)) wr) (fun _ _ i _ => 32 - (intOf i).toNat)
  case atStart => exact ⟨0, by omega, rfl, (unhide HA2).1, (unhide HA2).2, unhide HbA2⟩
  case round =>
    clear HA2 HbA2 mk
    obtain ⟨k, hk, rfl, q1, q2, hb⟩ := hrel
    by_cases hlt : k < 32
    · have hd1 : decide ((k : Int) < 32) = true := by simp; omega
      have hput := unhide HPut k hlt
      have hpuo := unhide HPuo k hlt
      have hl1 : (pParts seed index d k ++ List.replicate (1024 - 32 * k) 0).length = 1024 := by rw [List.length_append, pParts_length, List.length_replicate]; omega
      have hl2 : (pOthers seed index d k ++ List.replicate (1024 - 32 * k) 0).length = 1024 := by rw [List.length_append, pOthers_length, List.length_replicate]; omega
      have hw : Below w.heap.size w wr := (unhide HbA).trans (hb.mono (by omega))
      have tb := (unhide HT).below hw (Nat.le_refl _)
      have hz : w.heap.size + 1 + 1 + 1 < wr.heap.size := (Array.getElem?_eq_some_iff.1 q2).1
      have p0 := Below.at hb (by omega) (unhide HA).1
      have p1 := Below.at hb (by omega) (unhide HA).2
      have cB := fun w => unhide CB k (by omega) w
      have hbt := pBit_lt d k
      have cS1 := fun w tabs => unhide CS k (pBit d k) (by omega) (by omega) w tabs
      have cS2 := fun w tabs => unhide CS k (1 - pBit d k) (by omega) (by omega) w tabs
      have cP := fun w tabs => public_calls (pSecret seed index k (1 - pBit d k)) (pSecret_length _ _ _ _) w tabs
      have hD1 : (partAt seed index d k).length = 32 := pSecret_length _ _ _ _
      have hD2 : (otherAt seed index d k).length = 32 := pPublic_length _
      have hi2 := digInfo (partAt seed index d k) hD1
      have hi3 := digInfo (otherAt seed index d k) hD2
      have e1 : pSecret seed index k (pBit d k) = partAt seed index d k := rfl
      have e2 : pPublic (pSecret seed index k (1 - pBit d k)) = otherAt seed index d k := rfl
      have e3 : (List.range k).flatMap (partAt seed index d) = pParts seed index d k := rfl
      have e4 : (List.range k).flatMap (otherAt seed index d) = pOthers seed index d k := rfl
      rw [e1] at cS1
      rw [e2] at cP
      rw [e3] at hput
      rw [e4] at hpuo
      have m1 : (1 : Int) - ((pBit d k : Nat) : Int) = ((1 - pBit d k : Nat) : Int) := by omega
      generalize partAt seed index d k = D1 at *
      generalize otherAt seed index d k = D2 at *
      generalize pSecret seed index k (1 - pBit d k) = S2 at *
      generalize pParts seed index d k ++ List.replicate (1024 - 32 * k) 0 = L1 at *
      generalize pOthers seed index d k ++ List.replicate (1024 - 32 * k) 0 = L2 at *
      generalize 1 - pBit d k = b2 at *
      generalize pBit d k = b1 at *
      have bk : (0 : Int) ≤ k ∧ (k : Int) < 32 := by omega
      have HPt := hide hput
      have HPo := hide hpuo
      have KB := hide cB
      have K1 := hide cS1
      have K2 := hide cS2
      have KP := hide cP
      clear hput hpuo cB cS1 cS2 cP e1 e2 e3 e4
      go_wp2_with (refine wpList_load_row rfl 23 (.tmp 7) rfl (w.heap.size + 1) rfl 23 _ (0, 0) _ p1 Tryd.underlying23 rfl hi1 ?_)
      refine (unhide KB _).mono ?_
      rintro e w2 ⟨rfl, b2'⟩
      have p0' := Below.at b2' (by omega) p0
      have q1' := Below.at b2' (by omega) q1
      have q2' := Below.at b2' (by omega) q2
      have hb2 := hb.trans (b2'.mono (by omega))
      have tb2 := tb.below b2' (Nat.le_refl _)
      have z2 : w.heap.size + 1 + 1 + 1 < w2.heap.size := Nat.lt_of_lt_of_le hz b2'.size
      clear p0 p1 q1 q2 hb tb b2' hw hz
      go_wp2_with (refine wpList_load_row rfl 23 (.tmp 5) rfl w.heap.size rfl 23 _ (0, 0) _ p0' Tryd.underlying23 rfl hi0 ?_)
      refine (unhide K1 _ tb2).mono ?_
      rintro e w3 ⟨rfl, b3⟩
      have p0 := Below.at b3 (by omega) p0'
      have q1 := Below.at b3 (by omega) q1'
      have q2 := Below.at b3 (by omega) q2'
      have hb3 := hb2.trans (b3.mono (by omega))
      have tb3 := tb2.below b3 (Nat.le_refl _)
      have z3 : w.heap.size + 1 + 1 + 1 < w3.heap.size := Nat.lt_of_lt_of_le z2 b3.size
      clear p0' q1' q2' hb2 tb2 b3 z2
      go_wp2_with (first
        | (refine wpList_store_at rfl 23 (.tmp 30) (.tmp 29) rfl (w.heap.size + 1 + 1) (k * 32) L1 D1 23 rfl rfl q1 (by rw [hD1, hl1]; omega) hi2 ?_; intro w4 q4 ho4 hs4 hb4)
        | (refine wpList_load_row rfl 23 (.tmp 5) rfl w.heap.size rfl 23 _ (0, 0) _ ((ho4 _ (by omega)).trans p0) Tryd.underlying23 rfl hi0 ?_))
      rw [unhide HPt] at q4
      have q2' := (ho4 (w.heap.size + 1 + 1 + 1) (by omega)).trans q2
      have p0' := (ho4 w.heap.size (by omega)).trans p0
      have hb4' := hb3.trans (hb4 _ (Nat.le_refl _))
      have z4 : w.heap.size + 1 + 1 + 1 < w4.heap.size := by omega
      have tb4 := (unhide HT).below ((unhide HbA).trans (hb4'.mono (by omega))) (Nat.le_refl _)
      clear q1 q2 p0 hb3 ho4 hs4 hb4 tb3 z3
      refine (unhide K2 _ tb4).mono ?_
      rintro e w5 ⟨rfl, b5⟩
      have q5 := Below.at b5 (by omega) q4
      have r5 := Below.at b5 (by omega) q2'
      have hb5 := hb4'.trans (b5.mono (by omega))
      have tb5 := tb4.below b5 (Nat.le_refl _)
      have z5 : w.heap.size + 1 + 1 + 1 < w5.heap.size := Nat.lt_of_lt_of_le z4 b5.size
      clear q4 q2' p0' hb4' tb4 z4 b5
      go_wp2_with fail
      refine (unhide KP _ tb5).mono ?_
      rintro e w6 ⟨rfl, b6⟩
      have q6 := Below.at b6 (by omega) q5
      have r6 := Below.at b6 (by omega) r5
      have hb6 := hb5.trans (b6.mono (by omega))
      clear q5 r5 hb5 tb5 z5 b6
      go_wp2_with (refine wpList_store_at rfl 23 (.tmp 42) (.tmp 41) rfl (w.heap.size + 1 + 1 + 1) (k * 32) L2 D2 23 rfl rfl r6 (by rw [hD2, hl2]; omega) hi3 ?_; intro w7 q7 ho7 hs7 hb7)
      rw [unhide HPo] at q7
      have r7 := (ho7 (w.heap.size + 1 + 1) (by omega)).trans q6
      have hb8 := hb6.trans (hb7 _ (by omega))
      have Q7 := hide q7
      have R7 := hide r7
      have HB8 := hide hb8
      clear q7 r7 hb8 q6 r6 hb6 ho7 hs7 hb7
      go_wp2
      go_roundw
      case rel => exact ⟨k + 1, by omega, by go_num, unhide R7, unhide Q7, unhide HB8⟩
      case measure => simp [intOf]; omega
    · have hd1 : decide ((k : Int) < 32) = false := by simp; omega
      have hk32 : k = 32 := by omega
      subst hk32
      have e1 : pParts seed index d 32 ++ List.replicate (1024 - 32 * 32) 0 = pParts seed index d 32 := by simp
      have e2 : pOthers seed index d 32 ++ List.replicate (1024 - 32 * 32) 0 = pOthers seed index d 32 := by simp
      rw [e1] at q1
      rw [e2] at q2
      have hw : Below w.heap.size w wr := (unhide HbA).trans (hb.mono (by omega))
      have Q1 := hide q1
      have Q2 := hide q2
      have HW := hide hw
      clear q1 q2 hb hw e1 e2
      go_wp2
      go_ret2
      exact ⟨w.heap.size + 1 + 1, by omega, rfl, unhide HW, unhide Q1, unhide Q2⟩
end Go.Proofs.YtlicadfbkjhihaaDoor
