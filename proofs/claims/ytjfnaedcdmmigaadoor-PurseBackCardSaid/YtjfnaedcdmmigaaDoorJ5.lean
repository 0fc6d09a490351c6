/-
  THERE AND BACK, PLAIN: what somebody holds is changed, and changed back.
-/
/-
  withHeld.
-/
/-
  THE FIRST TOKEN OF ITS KEY IS ANOTHER ONE: withToken.
-/
/-
  WHAT amount's Add, Sub AND THE DOCUMENT'S RETURN; math/bits.Add64, Sub64, Mul64.
-/
/-
  amount's awake; math/bits.Div64 where the high word is zero.
-/
/-
  LESS, MORE: less, Grant.
-/
/-
  Grant.
-/
/-
  WHAT IS OUT OF A TOKEN; grantBehind.
-/
import Derived.Test.YtjfnaedcdmmigaaDoorJ4
import Derived.Great.BuildSlice
import Derived.StillTailTactics
import Derived.Test.YtjfnaedcdmmigaaDoorChecked
import Derived.Laws.Externs
import Derived.Shelf.Bits.Mul64
import Derived.WalkKit
import Derived.Test.YtjfnaedcdmmigaaDoorJ0
import Derived.WalkSmall
import Derived.Deep.QuietTactic
import Derived.BigQuiet
import Derived.Test.YtjfnaedcdmmigaaDoorJ1
namespace Go.Proofs.YtjfnaedcdmmigaaDoor
open Go Go.RowKit
set_option linter.unusedSimpArgs false
set_option linter.unusedVariables false

theorem findIdx_modify {α : Type} (p : α → Bool) (f : α → α) (hf : ∀ x, p (f x) = p x) : ∀ (xs : List α) (j : Nat), (xs.modify j f).findIdx p = xs.findIdx p
  | [], j => by cases j <;> rfl
  | x :: xs, 0 => by rw [List.modify_zero_cons, List.findIdx_cons, List.findIdx_cons, hf]
  | x :: xs, j + 1 => by rw [List.modify_succ_cons, List.findIdx_cons, List.findIdx_cons, findIdx_modify p f hf xs j]
theorem modify_self {α : Type} (f : α → α) : ∀ (xs : List α) (j : Nat), (∀ x, xs[j]? = some x → f x = x) → xs.modify j f = xs
  | [], j, h => by cases j <;> rfl
  | x :: xs, 0, h => by rw [List.modify_zero_cons, h x rfl]
  | x :: xs, j + 1, h => by rw [List.modify_succ_cons, modify_self f xs j (fun y hy => h y (by simpa using hy))]
theorem modify_two {α : Type} (f g : α → α) : ∀ (xs : List α) (j : Nat), (xs.modify j f).modify j g = xs.modify j (fun x => g (f x))
  | [], j => by cases j <;> rfl
  | x :: xs, 0 => by rw [List.modify_zero_cons, List.modify_zero_cons, List.modify_zero_cons]
  | x :: xs, j + 1 => by rw [List.modify_succ_cons, List.modify_succ_cons, List.modify_succ_cons, modify_two f g xs j]
/-- Of one that holds: changed and changed back. -/
theorem back_mod (hs : List Hol) (o : Nat) (n a : List UInt8) (u v : Nat) (hj : hs.findIdx (isH o n a) < hs.length) (hu : 0 < u) (hv : 0 < v) (he : ∀ x, hs[hs.findIdx (isH o n a)]? = some x → x.a = v) : pWith (pWith hs o n a u) o n a v = hs := by
  have h1 : pWith hs o n a u = hs.modify (hs.findIdx (isH o n a)) (fun h => { h with a := u }) := by unfold pWith; rw [if_pos hj, if_pos hu]
  have h2 := findIdx_modify (isH o n a) (fun h : Hol => { h with a := u }) (fun x => rfl) hs (hs.findIdx (isH o n a))
  rw [h1]
  unfold pWith
  rw [h2, List.length_modify, if_pos hj, if_pos hv, modify_two]
  refine modify_self _ _ _ fun x hx => ?_
  have := he x hx
  obtain ⟨o', n', w', a'⟩ := x
  simp only at this
  subst this
  rfl
/-- Of one that held nothing: it comes, and goes. -/
theorem findIdx_insert {α : Type} (p : α → Bool) (y : α) (hy : p y = true) : ∀ (xs : List α) (j : Nat), j ≤ xs.length → (∀ x ∈ xs, p x = false) → (xs.insertIdx j y).findIdx p = j
  | xs, 0, _, _ => by rw [List.insertIdx_zero, List.findIdx_cons, hy]; rfl
  | [], j + 1, h, _ => by simp at h
  | x :: xs, j + 1, h, hn => by
    rw [List.insertIdx_succ_cons, List.findIdx_cons, hn x (by simp), findIdx_insert p y hy xs j (by simpa using h) (fun z hz => hn z (by simp [hz]))]
    rfl
theorem back_ins (hs : List Hol) (o : Nat) (n a : List UInt8) (u : Nat) (hj : ¬ hs.findIdx (isH o n a) < hs.length) (hu : 0 < u) : pWith (pWith hs o n a u) o n a 0 = hs := by
  have hle : hs.findIdx (fun h => decide (0 < hOrd h.o h.n h.w o n a)) ≤ hs.length := List.findIdx_le_length
  have hno : ∀ x ∈ hs, isH o n a x = false := fun x hx => by
    cases h : isH o n a x with
    | false => rfl
    | true => exact absurd (List.findIdx_lt_length_of_exists ⟨x, hx, h⟩) hj
  have h1 : pWith hs o n a u = hs.insertIdx (hs.findIdx (fun h => decide (0 < hOrd h.o h.n h.w o n a))) ⟨o, n, a, u⟩ := by unfold pWith; rw [if_neg hj, if_pos hu]
  generalize hs.findIdx (fun h => decide (0 < hOrd h.o h.n h.w o n a)) = j at *
  have h2 := findIdx_insert (isH o n a) ⟨o, n, a, u⟩ (by simp [isH]) hs j hle hno
  rw [h1]
  unfold pWith
  rw [h2, List.length_insertIdx, if_pos hle, if_pos (by omega), if_neg (by omega), List.eraseIdx_insertIdx_self]
/-- What somebody holds behind. -/
theorem pHe_at (hs : List Hol) (o : Nat) (n a : List UInt8) (x : Hol) (hx : hs[hs.findIdx (isH o n a)]? = some x) : pHe hs o n a = x.a := by
  have hj := (List.getElem?_eq_some_iff.1 hx).1
  have he := (List.getElem?_eq_some_iff.1 hx).2
  have hp : isH o n a x = true := by rw [← he]; exact List.findIdx_getElem (w := hj)
  have : hs.find? (isH o n a) = some x := List.find?_eq_some_iff_getElem.2 ⟨hp, _, hj, he, fun i hi => by
    have := List.not_of_lt_findIdx hi
    simpa using this⟩
  unfold pHe
  rw [this]; rfl
theorem pHe_zero (hs : List Hol) (o : Nat) (n a : List UInt8) (hj : ¬ hs.findIdx (isH o n a) < hs.length) : pHe hs o n a = 0 := by
  have : hs.find? (isH o n a) = none := List.find?_eq_none.2 fun x hx h => hj (List.findIdx_lt_length_of_exists ⟨x, hx, h⟩)
  unfold pHe
  rw [this]; rfl
/-- What is minted to somebody is burned again: the holdings are as they were. -/
theorem back_more (hs : List Hol) (o : Nat) (n a : List UInt8) (k : Nat) (hz : ∀ x ∈ hs, x.a ≠ 0) : pWith (pWith hs o n a (pHe hs o n a + k)) o n a (pHe hs o n a) = hs := by
  by_cases hj : hs.findIdx (isH o n a) < hs.length
  · obtain ⟨x, hx⟩ : ∃ x, hs[hs.findIdx (isH o n a)]? = some x := ⟨_, List.getElem?_eq_getElem hj⟩
    have hv := pHe_at hs o n a x hx
    have h0 := hz x (List.mem_of_getElem? hx)
    rw [hv]
    exact back_mod hs o n a _ _ hj (by omega) (by omega) fun y hy => by rw [hx] at hy; cases hy; rfl
  · rw [pHe_zero hs o n a hj]
    by_cases hk : k = 0
    · subst hk
      have : pWith hs o n a (0 + 0) = hs := by unfold pWith; rw [if_neg hj, if_neg (by omega)]
      rw [this]; exact this
    · exact back_ins hs o n a _ hj (by omega)
/-- How much somebody holds behind. -/
theorem pHe_with (hs : List Hol) (o : Nat) (n a : List UInt8) (u : Nat) (hu : 0 < u) : pHe (pWith hs o n a u) o n a = u := by
  by_cases hj : hs.findIdx (isH o n a) < hs.length
  · have h1 : pWith hs o n a u = hs.modify (hs.findIdx (isH o n a)) (fun h => { h with a := u }) := by unfold pWith; rw [if_pos hj, if_pos hu]
    have h2 := findIdx_modify (isH o n a) (fun h : Hol => { h with a := u }) (fun x => rfl) hs (hs.findIdx (isH o n a))
    obtain ⟨x, hx⟩ : ∃ x, hs[hs.findIdx (isH o n a)]? = some x := ⟨_, List.getElem?_eq_getElem hj⟩
    rw [h1]
    refine (pHe_at _ o n a { x with a := u } ?_)
    rw [h2, List.getElem?_modify_eq, hx]; rfl
  · have hle : hs.findIdx (fun h => decide (0 < hOrd h.o h.n h.w o n a)) ≤ hs.length := List.findIdx_le_length
    have hno : ∀ x ∈ hs, isH o n a x = false := fun x hx => by
      cases h : isH o n a x with
      | false => rfl
      | true => exact absurd (List.findIdx_lt_length_of_exists ⟨x, hx, h⟩) hj
    have h1 : pWith hs o n a u = hs.insertIdx (hs.findIdx (fun h => decide (0 < hOrd h.o h.n h.w o n a))) ⟨o, n, a, u⟩ := by unfold pWith; rw [if_neg hj, if_pos hu]
    generalize hs.findIdx (fun h => decide (0 < hOrd h.o h.n h.w o n a)) = j at *
    have h2 := findIdx_insert (isH o n a) ⟨o, n, a, u⟩ (by simp [isH]) hs j hle hno
    rw [h1]
    refine (pHe_at _ o n a ⟨o, n, a, u⟩ ?_)
    rw [h2, List.getElem?_insertIdx_self, if_pos hle]
/-- The holdings stand in their order, each but once. -/
theorem sorted_pair (hs : List Hol) (hc : ∀ i x y, hs[i]? = some x → hs[i + 1]? = some y → hOrd x.o x.n x.w y.o y.n y.w < 0) : ∀ d i x y, hs[i]? = some x → hs[i + d + 1]? = some y → hOrd x.o x.n x.w y.o y.n y.w < 0
  | 0, i, x, y, hx, hy => hc i x y hx hy
  | d + 1, i, x, y, hx, hy => by
    have hl := (List.getElem?_eq_some_iff.1 hy).1
    obtain ⟨z, hz⟩ : ∃ z, hs[i + d + 1]? = some z := ⟨_, List.getElem?_eq_getElem (by omega)⟩
    exact hOrd_lt_trans (sorted_pair hs hc d i x z hx hz) (hc (i + d + 1) z y hz (by rw [show i + d + 1 + 1 = i + (d + 1) + 1 by omega]; exact hy))
theorem rH_pair {ts : List Tkn} {hs : List Hol} (h : rH ts hs = true) (i j : Nat) (x y : Hol) (hij : i < j) (hx : hs[i]? = some x) (hy : hs[j]? = some y) : hOrd x.o x.n x.w y.o y.n y.w < 0 := by
  have hc : ∀ i x y, hs[i]? = some x → hs[i + 1]? = some y → hOrd x.o x.n x.w y.o y.n y.w < 0 := fun i x y hx hy => by
    have h1 := (rH_true ts hs).2 h (i + 1) y (List.getElem?_eq_some_iff.1 hy).1 hy
    unfold okH at h1
    rw [Bool.and_eq_true] at h1
    have h2 : (match hs[i]? with | some s => decide (hOrd s.o s.n s.w y.o y.n y.w < 0) | none => true) = true := h1.1
    rw [hx] at h2
    simpa using h2
  exact sorted_pair hs hc (j - i - 1) i x y hx (by rw [show i + (j - i - 1) + 1 = j by omega]; exact hy)
theorem rH_some {ts : List Tkn} {hs : List Hol} (h : rH ts hs = true) : ∀ x ∈ hs, x.a ≠ 0 := fun x hx => by
  obtain ⟨i, hi, he⟩ := List.getElem_of_mem hx
  have h1 := (rH_true ts hs).2 h i x hi (by rw [List.getElem?_eq_getElem hi, he])
  unfold okH at h1
  simp only [Bool.and_eq_true, Bool.not_eq_true', decide_eq_false_iff_not] at h1
  exact h1.2.1
theorem rT_unl {ts : List Tkn} (h : rT ts = true) : ∀ x ∈ ts, x.ul ≤ x.lk ∧ x.bu ≤ x.mi := fun x hx => by
  obtain ⟨i, hi, he⟩ := List.getElem_of_mem hx
  have h1 := (rT_true ts).2 h i x hi (by rw [List.getElem?_eq_getElem hi, he])
  unfold okT at h1
  simp only [Bool.and_eq_true, decide_eq_true_eq] at h1
  exact ⟨h1.2.2.2, h1.2.2.1⟩
theorem ins_erase {α : Type} : ∀ (xs : List α) (j : Nat) (x : α), xs[j]? = some x → (xs.eraseIdx j).insertIdx j x = xs
  | [], j, x, h => by simp at h
  | y :: xs, 0, x, h => by simp at h; subst h; rw [List.eraseIdx_cons_zero, List.insertIdx_zero]
  | y :: xs, j + 1, x, h => by rw [List.eraseIdx_cons_succ, List.insertIdx_succ_cons, ins_erase xs j x (by simpa using h)]
theorem findIdx_of {α : Type} (p : α → Bool) : ∀ (xs : List α) (j : Nat), j ≤ xs.length → (∀ i y, i < j → xs[i]? = some y → p y = false) → (∀ y, xs[j]? = some y → p y = true) → xs.findIdx p = j
  | [], j, hj, _, _ => by simp at hj; subst hj; rfl
  | x :: xs, 0, _, _, h => by rw [List.findIdx_cons, h x rfl]; rfl
  | x :: xs, j + 1, hj, h1, h2 => by
    rw [List.findIdx_cons, h1 0 x (by omega) rfl, findIdx_of p xs j (by simpa using hj) (fun i y hi hy => h1 (i + 1) y (by omega) (by simpa using hy)) (fun y hy => h2 y (by simpa using hy))]
    rfl
theorem isH_key {o : Nat} {n a : List UInt8} {x : Hol} (h : isH o n a x = true) : x.o = o ∧ x.n = n ∧ x.w = a := by simpa [isH] using h
/-- Of one that holds: it goes, and comes again. -/
theorem back_gone {ts : List Tkn} {hs : List Hol} (h : rH ts hs = true) (o : Nat) (n a : List UInt8) (x : Hol) (hx : hs[hs.findIdx (isH o n a)]? = some x) : pWith (pWith hs o n a 0) o n a x.a = hs ∧ pHe (pWith hs o n a 0) o n a = 0 := by
  have hj := (List.getElem?_eq_some_iff.1 hx).1
  have he := (List.getElem?_eq_some_iff.1 hx).2
  have hp : isH o n a x = true := by rw [← he]; exact List.findIdx_getElem (w := hj)
  have h0 := rH_some h x (List.mem_of_getElem? hx)
  have h1 : pWith hs o n a 0 = hs.eraseIdx (hs.findIdx (isH o n a)) := by unfold pWith; rw [if_pos hj, if_neg (by omega)]
  rw [h1]
  generalize hs.findIdx (isH o n a) = j at *
  obtain ⟨e1, e2, e3⟩ := isH_key hp
  have hlow : ∀ i y, i < j → hs[i]? = some y → hOrd y.o y.n y.w o n a < 0 := fun i y hi hy => by
    have := rH_pair h i j y x hi hy hx
    rw [e1, e2, e3] at this; exact this
  have hhigh : ∀ i y, j < i → hs[i]? = some y → 0 < hOrd y.o y.n y.w o n a := fun i y hi hy => by
    have := rH_pair h j i x y hi hx hy
    rw [e1, e2, e3] at this
    rw [hOrd_swap o n a y.o y.n y.w]; omega
  have hne : ∀ i y, i ≠ j → hs[i]? = some y → isH o n a y = false := fun i y hi hy => by
    cases hq : isH o n a y with
    | false => rfl
    | true =>
      obtain ⟨f1, f2, f3⟩ := isH_key hq
      rcases Nat.lt_or_ge i j with hl | hl
      · have := hlow i y hl hy; rw [f1, f2, f3, hOrd_self] at this; omega
      · have := hhigh i y (by omega) hy; rw [f1, f2, f3, hOrd_self] at this; omega
  have hmem : ∀ y ∈ hs.eraseIdx j, isH o n a y = false := fun y hy => by
    obtain ⟨i, hi⟩ := List.getElem?_of_mem hy
    rw [List.getElem?_eraseIdx] at hi
    split at hi
    · exact hne i y (by omega) hi
    · exact hne (i + 1) y (by omega) hi
  have hnot : ¬ (hs.eraseIdx j).findIdx (isH o n a) < (hs.eraseIdx j).length := fun hlt => by
    have := List.findIdx_getElem (w := hlt)
    rw [hmem _ (List.getElem_mem _)] at this
    cases this
  have hlen : (hs.eraseIdx j).length = hs.length - 1 := by rw [List.length_eraseIdx, if_pos hj]
  have hfi : (hs.eraseIdx j).findIdx (fun h => decide (0 < hOrd h.o h.n h.w o n a)) = j := by
    refine findIdx_of _ _ _ (by omega) (fun i y hi hy => ?_) (fun y hy => ?_)
    · rw [List.getElem?_eraseIdx, if_pos hi] at hy
      have := hlow i y hi hy
      simp; omega
    · rw [List.getElem?_eraseIdx, if_neg (by omega)] at hy
      have := hhigh (j + 1) y (by omega) hy
      simp; omega
  refine ⟨?_, pHe_zero _ o n a hnot⟩
  unfold pWith
  rw [if_neg hnot, if_pos (by omega), hfi]
  have hxx : (⟨o, n, a, x.a⟩ : Hol) = x := by obtain ⟨o', n', w', a'⟩ := x; simp only at e1 e2 e3; subst e1; subst e2; subst e3; rfl
  rw [hxx]
  exact ins_erase hs j x hx
/-- What is locked of somebody is unlocked again: the holdings are as they were. -/
theorem back_less {ts : List Tkn} {hs : List Hol} (h : rH ts hs = true) (o : Nat) (n a : List UInt8) (k : Nat) (hk : k ≤ pHe hs o n a) : pWith (pWith hs o n a (pHe hs o n a - k)) o n a (pHe hs o n a) = hs ∧ pHe (pWith hs o n a (pHe hs o n a - k)) o n a = pHe hs o n a - k := by
  by_cases hj : hs.findIdx (isH o n a) < hs.length
  · obtain ⟨x, hx⟩ : ∃ x, hs[hs.findIdx (isH o n a)]? = some x := ⟨_, List.getElem?_eq_getElem hj⟩
    have hv := pHe_at hs o n a x hx
    have h0 := rH_some h x (List.mem_of_getElem? hx)
    rw [hv] at hk ⊢
    by_cases hq : x.a - k = 0
    · rw [hq]; exact back_gone h o n a x hx
    · exact ⟨back_mod hs o n a _ _ hj (by omega) (by omega) fun y hy => by rw [hx] at hy; cases hy; rfl, pHe_with hs o n a _ (by omega)⟩
  · have hz := pHe_zero hs o n a hj
    rw [hz] at hk ⊢
    have : pWith hs o n a (0 - k) = hs := by unfold pWith; rw [if_neg hj, if_neg (by omega)]
    have h2 : pWith hs o n a 0 = hs := by unfold pWith; rw [if_neg hj, if_neg (by omega)]
    rw [this, h2]
    exact ⟨rfl, by rw [hz]; omega⟩
end Go.Proofs.YtjfnaedcdmmigaaDoor

namespace Go.Proofs.YtjfnaedcdmmigaaDoor
open Go Go.RowKit
set_option linter.unusedSimpArgs false
set_option linter.unusedVariables false

/-- A row of one's own, where a row of another kind changed. -/
theorem vowns_kept {B s n s2 n2 : Nat} {w w' : World} {t t2 : TypeId} {v v2 : Value} {xs xs2 : List Value} (h : w.ownsRow B t s v n xs) (h2 : w.ownsRow B t2 s2 v2 n2 xs2) (ht : t ≠ t2) (hk : ∀ k, k < w.heap.size → some k ≠ v2.ownBlock → w'.heap[k]? = w.heap[k]?) : w'.ownsRow B t s v n xs := by
  obtain ⟨h1, h3⟩ := h
  refine ⟨h1, ?_⟩
  rcases h3 with h3 | ⟨g, cap, cur, rfl, hB, hg, hc, hm, hs, htk⟩
  · exact .inl h3
  · refine .inr ⟨g, cap, cur, rfl, hB, (hk g (Array.getElem?_eq_some_iff.1 hg).1 fun e => ?_).trans hg, hc, hm, hs, htk⟩
    rcases h2.2 with ⟨rfl, _⟩ | ⟨g2, cap2, cur2, rfl, _, hg2, _⟩
    · cases e
    · simp only [Value.ownBlock, Option.some.injEq] at e
      rw [e, hg2] at hg
      simp only [Option.some.injEq, Obj.cells.injEq] at hg
      exact ht hg.2.1.symm
theorem not_owned {B s n g : Nat} {w : World} {t t2 : TypeId} {v : Value} {xs : List Value} {C : Array Value} (h : w.ownsRow B t s v n xs) (hg : w.heap[g]? = some (.cells C t2 (0, 0))) (ht : t2 ≠ t) : some g ≠ v.ownBlock := fun e => by
  rcases h.2 with ⟨rfl, _⟩ | ⟨g2, cap2, cur2, rfl, _, hg2, _⟩
  · cases e
  · simp only [Value.ownBlock, Option.some.injEq] at e
    rw [e, hg2] at hg
    simp only [Option.some.injEq, Obj.cells.injEq] at hg
    exact ht hg.2.1.symm
set_option maxHeartbeats 8000000 in
set_option maxRecDepth 1000000 in
theorem withHeld_calls (ts : List Tkn) (hs : List Hol) (hn1 : ts.length ≤ 1000) (hn2 : hs.length ≤ 1000) (hok : ∀ h ∈ hs, h.ok) (v : Value) (o : Nat) (n a : List UInt8) (hnl : n.length ≤ 1000) (hal : a.length ≤ 1000) (k : Nat) (w : World) (hU : UTabs w) (hP : PM w v ts hs) :
    Calls Tryd.prog 56 #[v, .agg (hkv o n a), .int .u64 (k : Int)] w fun e w' => (∃ v', e = .returned v' ∧ PO w' w.heap.size v' ts (pWith hs o n a k)) ∧ Below w.heap.size w w' := by
  obtain ⟨p1, c1, p2, c2, rfl, hT, hH⟩ := hP
  obtain ⟨q0, q1, q2⟩ := al3 w (.cells #[.slice p1 ts.length c1, .slice p2 hs.length c2] 27) (.cells (hkv o n a) 81) (.cells #[.slice none 0 0, .slice none 0 0] 27)
  have b0 := bel3 w (.cells #[.slice p1 ts.length c1, .slice p2 hs.length c2] 27) (.cells (hkv o n a) 81) (.cells #[.slice none 0 0, .slice none 0 0] 27)
  have sX : (((w.alloc (.cells #[.slice p1 ts.length c1, .slice p2 hs.length c2] 27)).alloc (.cells (hkv o n a) 81)).alloc (.cells #[.slice none 0 0, .slice none 0 0] 27)).heap.size = w.heap.size + 1 + 1 + 1 := by simp
  have hik := hkInfo o n a
  obtain ⟨X, hX⟩ : ∃ X, ((w.alloc (.cells #[.slice p1 ts.length c1, .slice p2 hs.length c2] 27)).alloc (.cells (hkv o n a) 81)).alloc (.cells #[.slice none 0 0, .slice none 0 0] 27) = X := ⟨_, rfl⟩
  have HX := hide hX
  rw [hX] at q0 q1 q2 b0 sX
  have CT := hide (twin_calls ts hs hn1 hn2 (.agg #[.slice p1 ts.length c1, .slice p2 hs.length c2]) X ⟨p1, c1, p2, c2, rfl, hT.below b0, hH.below b0⟩)
  have CP := hide fun W (hW : Below X.heap.size X W) => holPlace_calls ts hs hn1 hn2 p1 p2 c1 c2 o n a W ((hT.below b0).below hW) ((hH.below b0).below hW)
  have CI := hide fun W (hW : Below X.heap.size X W) (q : W.heap[w.heap.size + 1]? = some (.cells (hkv o n a) 81 (0, 0))) => indexH_calls 83 (enters_of Tryd.func83 (by kernel_rfl) rfl) #[.pointer (some ⟨w.heap.size + 1, 0, none⟩)] (fun h => decide (0 < hOrd h.o h.n h.w o n a)) hs hn2 p2 c2 W ((hH.below b0).below hW) (fun x hx V hV => holBehind_calls x (hok x hx) o n a hnl hal (w.heap.size + 1) V (((hU.below' b0).below' hW).below' hV) (Below.at hV (Array.getElem?_eq_some_iff.1 q).1 q))
  have Q0 := hide q0
  have Q1 := hide q1
  have Q2 := hide q2
  have B0 := hide b0
  have SX := hide sX
  have HN2 := hide hn2
  have PS := hide fun v1 v2 => purSz v1 v2
  clear hT hH hX q1 q2 b0 sX hU hok hn1 hn2 hnl hal
  obtain ⟨HS, hHS⟩ : ∃ l, pWith hs o n a k = l := ⟨_, rfl⟩
  have HHS := hide hHS
  rw [hHS]
  have kv : hkv o n a = #[.int .u32 (o : Int), .string (str n), .string (str a)] := rfl
  have KV := hide kv
  have hii := PS
  obtain ⟨KY, hKY⟩ : ∃ K, hkv o n a = K := ⟨_, rfl⟩
  have HKY := hide hKY
  rw [hKY] at Q1 CP CI HX hik
  rw [hKY]
  have mf : ∀ (fn : Fn) (first cap : Array Value) (w : World), (Instr.makeFunc fn first cap).run Tryd.prog w = .ok (.func fn first cap) w := fun _ _ _ _ => rfl
  clear hHS kv hKY hii
  go_enter Tryd.func56, Tryd.ntmps56
  go_upto_region 1 with fail
  change Code.wp _ _ _ _ (((w.alloc (.cells #[.slice p1 ts.length c1, .slice p2 hs.length c2] 27)).alloc (.cells KY 81)).alloc (.cells #[.slice none 0 0, .slice none 0 0] 27))
  rw [unhide HX]
  go_wp2_with (refine wpList_load_row rfl 27 (.tmp 3) rfl w.heap.size rfl 27 _ (0, 0) _ q0 Tryd.underlying27 rfl (unhide PS _ _) ?_)
  refine (unhide CT).mono ?_
  rintro e w2 ⟨⟨v', rfl, u1, u2, rfl, own1, own2⟩, b2⟩
  have one2 := two_one u1 u2 (owns_one own1) (owns_one own2)
  have O1 := hide own1
  have O2 := hide own2
  have B2 := hide b2
  clear own1 own2 b2 CT q0
  go_upto_region 2 with (refine wpList_store_newV rfl 27 (.tmp 7) (.tmp 10) rfl w2 #[.slice none 0 0, .slice none 0 0] _ #[u1, u2] rfl rfl (unhide PS _ _) rfl one2 ?_; intro w3 q7 b3 z3)
  have z2 := (unhide B2).size
  have S3 : Hid (Below X.heap.size X w3) := hide ((unhide B2).trans (b3.mono z2))
  have V3 : Hid (QV w3 X.heap.size w2.heap.size u1 u2 ts hs) := hide ⟨q7, vowns_below (unhide O1) b3, vowns_below (unhide O2) b3⟩
  obtain ⟨G, hG⟩ : ∃ G, w2.heap.size = G := ⟨_, rfl⟩
  have HGX : Hid (X.heap.size ≤ G) := hide (by rw [← hG]; exact z2)
  rw [hG] at V3
  simp only [hG]
  clear q7 b3 z3 z2 hG B2 O1 O2
  have k0 := Below.at (unhide S3) (by have := unhide SX; omega) (unhide Q0)
  have k1 := Below.at (unhide S3) (by have := unhide SX; omega) (unhide Q1)
  go_wp2_with (first
    | (refine wpList_load_row rfl 27 (.tmp 3) rfl w.heap.size rfl 27 _ (0, 0) _ k0 Tryd.underlying27 rfl (unhide PS _ _) ?_)
    | (refine wpList_load_row rfl 81 (.tmp 4) rfl (w.heap.size + 1) rfl 81 _ (0, 0) _ k1 Tryd.underlying81 rfl hik ?_))
  refine (unhide CP _ (unhide S3)).mono ?_
  rintro e w4 ⟨rfl, b4⟩
  have S4 : Hid (Below X.heap.size X w4) := hide ((unhide S3).trans (b4.mono (unhide S3).size))
  have V4 := hide ((unhide V3).below b4)
  clear k0 k1 b4 S3 V3 CP
  -- the end: what stands in the variable is returned
  have FIN : Hid (∀ (W : World) (x1 x2 : Value), Below X.heap.size X W → QV W X.heap.size G x1 x2 ts HS → W.heap[w.heap.size + 1 + 1]? = some (.cells #[.slice none 0 0, .slice none 0 0] 27 (0, 0)) ∧ ((∃ v', (Ending.returned (.agg #[x1, x2]) : Ending) = .returned v' ∧ PO (W.setRow (w.heap.size + 1 + 1) #[x1, x2]) w.heap.size v' ts HS) ∧ Below w.heap.size w (W.setRow (w.heap.size + 1 + 1) #[x1, x2]))) := hide fun W x1 x2 hW hV => by
    have r := Below.at hW (by have := unhide SX; omega) (unhide Q2)
    have hbb := (unhide B0).trans (hW.mono (unhide B0).size)
    exact ⟨r, ⟨_, rfl, (hV.out _ _ r).base (unhide B0).size⟩, hbb.trans (below_setRow (Below.refl _ _) (by omega) _)⟩
  by_cases hlt : hs.findIdx (isH o n a) < hs.length
  · have hr : pIx (isH o n a) hs = (hs.findIdx (isH o n a) : Int) := by unfold pIx; rw [if_pos hlt]
    rw [hr]
    obtain ⟨x, hx⟩ : ∃ x, hs[hs.findIdx (isH o n a)]? = some x := ⟨_, List.getElem?_eq_getElem hlt⟩
    have hyes : Hid (0 < k → HS = hs.modify (hs.findIdx (isH o n a)) (fun h => { h with a := k })) := hide fun hk => by rw [← unhide HHS]; unfold pWith; rw [if_pos hlt, if_pos hk]
    have hno : Hid (¬ 0 < k → HS = hs.eraseIdx (hs.findIdx (isH o n a))) := hide fun hk => by rw [← unhide HHS]; unfold pWith; rw [if_pos hlt, if_neg hk]
    obtain ⟨J, hJ⟩ : ∃ J, hs.findIdx (isH o n a) = J := ⟨_, rfl⟩
    rw [hJ] at hlt hx hyes hno
    rw [hJ]
    clear hr hJ CI HHS
    have d0 : (0 : Int) ≤ (J : Int) := by omega
    by_cases hk : 0 < k
    · have dk : (0 : Int) < (k : Int) := by omega
      have hHS := unhide hyes hk
      have HJ := hide hHS
      obtain ⟨p, cp, hp⟩ : ∃ p cp, u2 = .slice p hs.length cp := by
        obtain ⟨p, cp, e, _⟩ := EL_of_owns holC_len (unhide V4).hol
        exact ⟨p, cp, e⟩
      subst hp
      obtain ⟨g2, cur, rfl, hBg, hg2, hcs, hnc⟩ := owns_block (unhide V4).hol (by omega)
      have kq : w4.cell? ⟨G, 1, none⟩ = some (.slice (some ⟨g2, 0, none⟩) hs.length cp) := cell_of_row _ _ _ _ _ _ (unhide V4).row
      have hlt' : (J : Int) < (hs.length : Int) := by omega
      have dlt : decide (J < hs.length) = true := by simpa using hlt
      have hJc : J * 4 + 3 < cur.size := by omega
      obtain ⟨old, kc⟩ : ∃ old, w4.cell? ⟨g2, J * 4 + 3, none⟩ = some old := by
        rw [cell_of_row _ _ _ _ _ _ hg2]
        exact ⟨_, Array.getElem?_eq_getElem hJc⟩
      have kf : w4.frozen? ⟨g2, J * 4 + 3, none⟩ = false := frozen_in_row hg2
      have hGg : g2 ≠ G := fun e => by
        rw [e, (unhide V4).row] at hg2
        simp only [Option.some.injEq, Obj.cells.injEq] at hg2
        exact absurd hg2.2.1 (by decide)
      have V5 : QV (w4.setCell ⟨g2, J * 4 + 3, none⟩ (.int .u64 (k : Int))) X.heap.size G u1 (.slice (some ⟨g2, 0, none⟩) hs.length cp) ts HS := by
        have hl : HS.length = hs.length := by rw [hHS, List.length_modify]
        have h3 := owns_set (unhide V4).hol (m := J * 4 + 3) (by omega) (.int .u64 (k : Int))
        rw [← flat_modify (enc := holC) (s := 4) (m := 3) holC_len (by decide) (fun h : Hol => { h with a := k }) (fun _ => .int .u64 (k : Int)) (fun _ => rfl) hs J x hx, ← hHS] at h3
        refine ⟨(Below.heap_setCell w4 ⟨g2, J * 4 + 3, none⟩ _ G (Ne.symm hGg)).trans (unhide V4).row, ?_, by rw [hl]; exact h3⟩
        exact vowns_other (unhide V4).tok (fun k' hk' => Below.heap_setCell w4 ⟨g2, J * 4 + 3, none⟩ _ k' hk') cur 75 (by decide) hg2
      have S5 : Below X.heap.size X (w4.setCell ⟨g2, J * 4 + 3, none⟩ (.int .u64 (k : Int))) := (unhide S4).setCell (p := ⟨g2, J * 4 + 3, none⟩) hBg _
      have F := unhide FIN _ _ _ S5 V5
      have FF := hide F
      have r5 := V5.row
      clear hg2 hcs hnc hx hHS V5 S5 F hBg hJc hyes hno
      go_upto_region 12 with fail
      obtain ⟨W5, hW5⟩ : ∃ W, w4.setCell ⟨g2, J * 4 + 3, none⟩ (.int .u64 (k : Int)) = W := ⟨_, rfl⟩
      rw [hW5] at r5 FF
      rw [hW5]
      have r6 := (unhide FF).1
      clear kq kc kf hW5
      go_wp2_with (first
        | (refine wpList_load_row rfl 27 (.tmp 7) rfl G rfl 27 _ (0, 0) _ r5 Tryd.underlying27 rfl (unhide PS _ _) ?_)
        | (refine wpList_store_row rfl 27 (.tmp 6) (.tmp 65) rfl (w.heap.size + 1 + 1) _ rfl rfl 27 _ r6 (unhide PS _ _) rfl one2 ?_))
      exact bodyPost_ret (results_cell_row rfl _ _ (w.heap.size + 1 + 1) _ _ _ _ rfl (setRow_heap _ _ _ _ _ _ r6) Tryd.underlying27 rfl (unhide PS _ _)) rfl (unhide FF).2
    · have dk : ¬ (0 : Int) < (k : Int) := by omega
      have hHS := unhide hno hk
      have CD := hide (delH_calls hs (unhide HN2) J hlt u2 X.heap.size w4 (unhide V4).hol)
      have kq : w4.cell? ⟨G, 1, none⟩ = some u2 := cell_of_row _ _ _ _ _ _ (unhide V4).row
      have hw1 : IntKind.i64.wrap ((J : Int) + 1) = (J : Int) + 1 := by rw [IntKind.wrap_i64]; have := unhide HN2; omega
      have HH := hide hHS
      clear hHS hx hyes hno
      go_wp2_with fail
      refine (unhide CD).mono ?_
      rintro e w5 ⟨⟨x2, rfl, own5⟩, kp5, zz5, b5⟩
      obtain ⟨pz, cz, nz, hx2⟩ : ∃ pz cz nz, x2 = .slice pz nz cz := by
        obtain ⟨pz, cz, h, _⟩ := EL_of_owns holC_len own5
        exact ⟨pz, cz, _, h⟩
      have hnG := not_owned (unhide V4).hol (unhide V4).row (by decide)
      have row5 := (kp5 G hnG).trans (unhide V4).row
      have tok5 := vowns_kept (unhide V4).tok (unhide V4).hol (by decide) (fun k' _ h => kp5 k' h)
      have S5 : Below X.heap.size X w5 := (unhide S4).trans b5
      have f5 : w5.frozen? ⟨G, 1, none⟩ = false := frozen_in_row row5
      have c5 : w5.cell? ⟨G, 1, none⟩ = some u2 := cell_of_row _ _ _ _ _ _ row5
      have one5 := two_one u1 x2 (owns_one tok5) (owns_one own5)
      have r6 := heap_setCell_same w5 G 1 #[u1, u2] _ x2 row5
      have V6 : QV (w5.setCell ⟨G, 1, none⟩ x2) X.heap.size G u1 x2 ts HS := by
        rw [unhide HH]
        exact ⟨r6, vowns_other tok5 (fun k' hk' => Below.heap_setCell w5 ⟨G, 1, none⟩ _ k' hk') _ _ (by decide) row5, vowns_other own5 (fun k' hk' => Below.heap_setCell w5 ⟨G, 1, none⟩ _ k' hk') _ _ (by decide) row5⟩
      have S6 : Below X.heap.size X (w5.setCell ⟨G, 1, none⟩ x2) := S5.setCell (p := ⟨G, 1, none⟩) (unhide HGX) _
      have FF := hide (unhide FIN _ _ _ S6 V6)
      have r6' := V6.row
      clear own5 kp5 zz5 b5 hnG row5 tok5 S5 r6 V6 S6 kq CD
      subst hx2
      go_upto_region 12 with fail
      obtain ⟨W6, hW6⟩ : ∃ W, w5.setCell ⟨G, 1, none⟩ (.slice pz nz cz) = W := ⟨_, rfl⟩
      rw [hW6] at r6' FF
      rw [hW6]
      have r7 := (unhide FF).1
      clear f5 c5 hW6
      go_wp2_with (first
        | (refine wpList_load_row rfl 27 (.tmp 7) rfl G rfl 27 _ (0, 0) _ r6' Tryd.underlying27 rfl (unhide PS _ _) ?_)
        | (refine wpList_store_row rfl 27 (.tmp 6) (.tmp 65) rfl (w.heap.size + 1 + 1) _ rfl rfl 27 _ r7 (unhide PS _ _) rfl one5 ?_))
      exact bodyPost_ret (results_cell_row rfl _ _ (w.heap.size + 1 + 1) _ _ _ _ rfl (setRow_heap _ _ _ _ _ _ r7) Tryd.underlying27 rfl (unhide PS _ _)) rfl (unhide FF).2
  · have hr : pIx (isH o n a) hs = -1 := by unfold pIx; rw [if_neg hlt]
    rw [hr]
    have hyes : Hid (0 < k → HS = hs.insertIdx (hs.findIdx (fun h => decide (0 < hOrd h.o h.n h.w o n a))) ⟨o, n, a, k⟩) := hide fun hk => by rw [← unhide HHS]; unfold pWith; rw [if_neg hlt, if_pos hk]
    have hno : Hid (¬ 0 < k → HS = hs) := hide fun hk => by rw [← unhide HHS]; unfold pWith; rw [if_neg hlt, if_neg hk]
    clear hr HHS hlt
    by_cases hk : 0 < k
    · have dk : (0 : Int) < (k : Int) := by omega
      have HH := hide (unhide hyes hk)
      have k1 := Below.at (unhide S4) (by have := unhide SX; omega) (unhide Q1)
      have k0 := Below.at (unhide S4) (by have := unhide SX; omega) (unhide Q0)
      have kq0 : w4.cell? ⟨w.heap.size, 1, none⟩ = some (.slice p2 hs.length c2) := cell_of_row _ _ _ _ _ _ k0
      have CI4 := hide (unhide CI w4 (unhide S4) k1)
      clear hyes hno CI k1 k0
      go_wp2_with fail
      refine (unhide CI4).mono ?_
      rintro e w5 ⟨rfl, b5⟩
      have S5 : Hid (Below X.heap.size X w5) := hide ((unhide S4).trans (b5.mono (unhide S4).size))
      have V5 := hide ((unhide V4).below b5)
      clear b5 S4 V4 CI4 kq0
      obtain ⟨R, hR⟩ : ∃ R, hs.findIdx (fun h => decide (0 < hOrd h.o h.n h.w o n a)) = R := ⟨_, rfl⟩
      have hRl : R ≤ hs.length := by rw [← hR]; exact List.findIdx_le_length
      have hpi : pIx (fun h => decide (0 < hOrd h.o h.n h.w o n a)) hs = if R < hs.length then (R : Int) else -1 := by unfold pIx; rw [hR]
      rw [hR] at HH
      rw [hpi]
      have HRl := hide hRl
      clear hR hpi hRl
      have j0 := Below.at (unhide S5) (by have := unhide SX; omega) (unhide Q0)
      have j1 := Below.at (unhide S5) (by have := unhide SX; omega) (unhide Q1)
      rw [← unhide HKY, unhide KV] at j1
      have kq0 : w5.cell? ⟨w.heap.size, 1, none⟩ = some (.slice p2 hs.length c2) := cell_of_row _ _ _ _ _ _ j0
      have kk0 : w5.cell? ⟨w.heap.size + 1, 0, none⟩ = some (.int .u32 (o : Int)) := cell_of_row _ _ _ _ _ _ j1
      have kk1 : w5.cell? ⟨w.heap.size + 1, 1, none⟩ = some (.string (str n)) := cell_of_row _ _ _ _ _ _ j1
      have kk2 : w5.cell? ⟨w.heap.size + 1, 2, none⟩ = some (.string (str a)) := cell_of_row _ _ _ _ _ _ j1
      have kq : w5.cell? ⟨G, 1, none⟩ = some u2 := cell_of_row _ _ _ _ _ _ (unhide V5).row
      clear j0 j1
      by_cases hRn : R < hs.length
      · rw [if_pos hRn]
        have dR : ¬ (R : Int) < 0 := by omega
        go_upto_region 11 with fail
        have hnew := al1 w5 (.cells (holC ⟨o, n, a, k⟩).toArray 75)
        have bN : Below w5.heap.size w5 (w5.alloc (.cells (holC ⟨o, n, a, k⟩).toArray 75)) := (Below.refl _ _).alloc (Nat.le_refl _) _
        have V5' := (unhide V5).below bN
        have S5' : Below X.heap.size X (w5.alloc (.cells (holC ⟨o, n, a, k⟩).toArray 75)) := (unhide S5).trans (bN.mono (unhide S5).size)
        have hne : some w5.heap.size ≠ u2.ownBlock := fun e => by
          rcases (unhide V5).hol.2 with ⟨rfl, _⟩ | ⟨g2, cap2, cur2, rfl, _, hg2, _⟩
          · cases e
          · simp only [Value.ownBlock, Option.some.injEq] at e
            have := (Array.getElem?_eq_some_iff.1 hg2).1
            omega
        have CC := hide (insH_calls hs (unhide HN2) R (unhide HRl) ⟨o, n, a, k⟩ u2 X.heap.size w5.heap.size (w5.alloc (.cells (holC ⟨o, n, a, k⟩).toArray 75)) (by rw [World.size_alloc]; have := (unhide S5).size; omega) V5'.hol hnew hne)
        obtain ⟨Y, hY⟩ : ∃ Y, w5.alloc (.cells (holC ⟨o, n, a, k⟩).toArray 75) = Y := ⟨_, rfl⟩
        rw [hY] at CC V5' S5'
        have VY := hide V5'
        have SY := hide S5'
        have HY := hide hY
        have eC : holC ⟨o, n, a, k⟩ = [.int .u32 (o : Int), .string (str n), .string (str a), .int .u64 (k : Int)] := rfl
        rw [eC] at HY
        clear hnew bN V5' S5' hne hY V5 S5 eC kq0
        go_wp2_with (first
          | (rw [unhide HY])
          | fail)
        refine (unhide CC).mono ?_
        rintro e w6 ⟨⟨x2, rfl, own6⟩, kp6, zz6, b6⟩
        obtain ⟨pz, cz, nz, hx2⟩ : ∃ pz cz nz, x2 = .slice pz nz cz := by
          obtain ⟨pz, cz, h, _⟩ := EL_of_owns holC_len own6
          exact ⟨pz, cz, _, h⟩
        have hnG := not_owned (unhide VY).hol (unhide VY).row (by decide)
        have row6 := (kp6 G (Array.getElem?_eq_some_iff.1 (unhide VY).row).1 hnG).trans (unhide VY).row
        have tok6 := vowns_kept (unhide VY).tok (unhide VY).hol (by decide) kp6
        have S6 : Below X.heap.size X w6 := (unhide SY).trans b6
        have f6 : w6.frozen? ⟨G, 1, none⟩ = false := frozen_in_row row6
        have c6 : w6.cell? ⟨G, 1, none⟩ = some u2 := cell_of_row _ _ _ _ _ _ row6
        have one6 := two_one u1 x2 (owns_one tok6) (owns_one own6)
        have r6 := heap_setCell_same w6 G 1 #[u1, u2] _ x2 row6
        have V7 : QV (w6.setCell ⟨G, 1, none⟩ x2) X.heap.size G u1 x2 ts HS := by
          rw [unhide HH]
          exact ⟨r6, vowns_other tok6 (fun k' hk' => Below.heap_setCell w6 ⟨G, 1, none⟩ _ k' hk') _ _ (by decide) row6, vowns_other own6 (fun k' hk' => Below.heap_setCell w6 ⟨G, 1, none⟩ _ k' hk') _ _ (by decide) row6⟩
        have S7 : Below X.heap.size X (w6.setCell ⟨G, 1, none⟩ x2) := S6.setCell (p := ⟨G, 1, none⟩) (unhide HGX) _
        have FF := hide (unhide FIN _ _ _ S7 V7)
        have r7 := V7.row
        clear own6 kp6 zz6 b6 hnG row6 tok6 S6 r6 V7 S7 CC VY SY HY kk0 kk1 kk2 kq
        subst hx2
        go_upto_region 12 with fail
        obtain ⟨W7, hW7⟩ : ∃ W, w6.setCell ⟨G, 1, none⟩ (.slice pz nz cz) = W := ⟨_, rfl⟩
        rw [hW7] at r7 FF
        rw [hW7]
        have r8 := (unhide FF).1
        clear f6 c6 hW7
        go_wp2_with (first
          | (refine wpList_load_row rfl 27 (.tmp 7) rfl G rfl 27 _ (0, 0) _ r7 Tryd.underlying27 rfl (unhide PS _ _) ?_)
          | (refine wpList_store_row rfl 27 (.tmp 6) (.tmp 65) rfl (w.heap.size + 1 + 1) _ rfl rfl 27 _ r8 (unhide PS _ _) rfl one6 ?_))
        exact bodyPost_ret (results_cell_row rfl _ _ (w.heap.size + 1 + 1) _ _ _ _ rfl (setRow_heap _ _ _ _ _ _ r8) Tryd.underlying27 rfl (unhide PS _ _)) rfl (unhide FF).2
      · rw [if_neg hRn]
        have hRe : R = hs.length := by have := unhide HRl; omega
        subst hRe
        go_upto_region 11 with fail
        have hnew := al1 w5 (.cells (holC ⟨o, n, a, k⟩).toArray 75)
        have bN : Below w5.heap.size w5 (w5.alloc (.cells (holC ⟨o, n, a, k⟩).toArray 75)) := (Below.refl _ _).alloc (Nat.le_refl _) _
        have V5' := (unhide V5).below bN
        have S5' : Below X.heap.size X (w5.alloc (.cells (holC ⟨o, n, a, k⟩).toArray 75)) := (unhide S5).trans (bN.mono (unhide S5).size)
        have hne : some w5.heap.size ≠ u2.ownBlock := fun e => by
          rcases (unhide V5).hol.2 with ⟨rfl, _⟩ | ⟨g2, cap2, cur2, rfl, _, hg2, _⟩
          · cases e
          · simp only [Value.ownBlock, Option.some.injEq] at e
            have := (Array.getElem?_eq_some_iff.1 hg2).1
            omega
        have CC := hide (insH_calls hs (unhide HN2) hs.length (unhide HRl) ⟨o, n, a, k⟩ u2 X.heap.size w5.heap.size (w5.alloc (.cells (holC ⟨o, n, a, k⟩).toArray 75)) (by rw [World.size_alloc]; have := (unhide S5).size; omega) V5'.hol hnew hne)
        obtain ⟨Y, hY⟩ : ∃ Y, w5.alloc (.cells (holC ⟨o, n, a, k⟩).toArray 75) = Y := ⟨_, rfl⟩
        rw [hY] at CC V5' S5'
        have VY := hide V5'
        have SY := hide S5'
        have HY := hide hY
        have eC : holC ⟨o, n, a, k⟩ = [.int .u32 (o : Int), .string (str n), .string (str a), .int .u64 (k : Int)] := rfl
        rw [eC] at HY
        clear hnew bN V5' S5' hne hY V5 S5 eC kq0
        go_wp2_with (first
          | (rw [unhide HY])
          | fail)
        refine (unhide CC).mono ?_
        rintro e w6 ⟨⟨x2, rfl, own6⟩, kp6, zz6, b6⟩
        obtain ⟨pz, cz, nz, hx2⟩ : ∃ pz cz nz, x2 = .slice pz nz cz := by
          obtain ⟨pz, cz, h, _⟩ := EL_of_owns holC_len own6
          exact ⟨pz, cz, _, h⟩
        have hnG := not_owned (unhide VY).hol (unhide VY).row (by decide)
        have row6 := (kp6 G (Array.getElem?_eq_some_iff.1 (unhide VY).row).1 hnG).trans (unhide VY).row
        have tok6 := vowns_kept (unhide VY).tok (unhide VY).hol (by decide) kp6
        have S6 : Below X.heap.size X w6 := (unhide SY).trans b6
        have f6 : w6.frozen? ⟨G, 1, none⟩ = false := frozen_in_row row6
        have c6 : w6.cell? ⟨G, 1, none⟩ = some u2 := cell_of_row _ _ _ _ _ _ row6
        have one6 := two_one u1 x2 (owns_one tok6) (owns_one own6)
        have r6 := heap_setCell_same w6 G 1 #[u1, u2] _ x2 row6
        have V7 : QV (w6.setCell ⟨G, 1, none⟩ x2) X.heap.size G u1 x2 ts HS := by
          rw [unhide HH]
          exact ⟨r6, vowns_other tok6 (fun k' hk' => Below.heap_setCell w6 ⟨G, 1, none⟩ _ k' hk') _ _ (by decide) row6, vowns_other own6 (fun k' hk' => Below.heap_setCell w6 ⟨G, 1, none⟩ _ k' hk') _ _ (by decide) row6⟩
        have S7 : Below X.heap.size X (w6.setCell ⟨G, 1, none⟩ x2) := S6.setCell (p := ⟨G, 1, none⟩) (unhide HGX) _
        have FF := hide (unhide FIN _ _ _ S7 V7)
        have r7 := V7.row
        clear own6 kp6 zz6 b6 hnG row6 tok6 S6 r6 V7 S7 CC VY SY HY kk0 kk1 kk2 kq
        subst hx2
        go_upto_region 12 with fail
        obtain ⟨W7, hW7⟩ : ∃ W, w6.setCell ⟨G, 1, none⟩ (.slice pz nz cz) = W := ⟨_, rfl⟩
        rw [hW7] at r7 FF
        rw [hW7]
        have r8 := (unhide FF).1
        clear f6 c6 hW7
        go_wp2_with (first
          | (refine wpList_load_row rfl 27 (.tmp 7) rfl G rfl 27 _ (0, 0) _ r7 Tryd.underlying27 rfl (unhide PS _ _) ?_)
          | (refine wpList_store_row rfl 27 (.tmp 6) (.tmp 65) rfl (w.heap.size + 1 + 1) _ rfl rfl 27 _ r8 (unhide PS _ _) rfl one6 ?_))
        exact bodyPost_ret (results_cell_row rfl _ _ (w.heap.size + 1 + 1) _ _ _ _ rfl (setRow_heap _ _ _ _ _ _ r8) Tryd.underlying27 rfl (unhide PS _ _)) rfl (unhide FF).2
    · have dk : ¬ (0 : Int) < (k : Int) := by omega
      have hHS := unhide hno hk
      have FF := hide (unhide FIN w4 u1 u2 (unhide S4) (by rw [hHS]; exact unhide V4))
      have r4 := (unhide V4).row
      have r6 := (unhide FF).1
      clear hHS hyes hno CI V4 S4
      go_wp2_with (first
        | (refine wpList_load_row rfl 27 (.tmp 7) rfl G rfl 27 _ (0, 0) _ r4 Tryd.underlying27 rfl (unhide PS _ _) ?_)
        | (refine wpList_store_row rfl 27 (.tmp 6) (.tmp 65) rfl (w.heap.size + 1 + 1) _ rfl rfl 27 _ r6 (unhide PS _ _) rfl one2 ?_))
      exact bodyPost_ret (results_cell_row rfl _ _ (w.heap.size + 1 + 1) _ _ _ _ rfl (setRow_heap _ _ _ _ _ _ r6) Tryd.underlying27 rfl (unhide PS _ _)) rfl (unhide FF).2
end Go.Proofs.YtjfnaedcdmmigaaDoor

namespace Go.Proofs.YtjfnaedcdmmigaaDoor
open Go Go.RowKit
set_option linter.unusedSimpArgs false
set_option linter.unusedVariables false

theorem wpList_store_k {P : Program} {ops : Array Oper} {rest : List Oper} {op : Oper} {a : Act} {w : World} {Q : Exit → Act → World → Prop} (hgd : op.guard = none) (ty : TypeId) (x y : Operand) (ho : op.op = .store ty x y)
    (g o : Nat) (C D : Array Value) (t : TypeId) (hx : a.eval x = .pointer (some ⟨g, o, none⟩)) (hy : a.eval y = .agg D) (hg : w.heap[g]? = some (.cells C t (0, 0))) (hle : o + D.size ≤ C.size)
    (hi : (P.info? ty).map (·.size) = some D.size) (h1 : D.all (·.oneCell') = true)
    (h : ∀ w', w'.heap[g]? = some (.cells (rowPut C o D.toList) t (0, 0)) → (∀ k, k ≠ g → w'.heap[k]? = w.heap[k]?) → w'.heap.size = w.heap.size → (∀ B, B ≤ g → Below B w w') → wpList P ops Q rest (a.put op.dst undef) w') :
    wpList P ops Q (op :: rest) a w := by
  have th : w.there g o D.size := by
    intro j hj
    exact ⟨cell_in_row hg (by omega), frozen_of_row _ _ _ _ _ hg⟩
  refine wpList_store_mid hgd ty x y ho g o D hx hy th hi h1 ?_
  obtain ⟨r1, r2, r3, r4⟩ := setCells_heap g t D.toList o C w hg (by simpa using hle)
  exact h _ r1 r2 r3 r4
/-- An element of a row of one's own is another one. -/
theorem owns_put {w w' : World} {B s n cap g : Nat} {t : TypeId} {xs : List Value} {cur : Array Value} {o : Nat} {vs : List Value} (h : w.ownsRow B t s (.slice (some ⟨g, 0, none⟩) n cap) n xs) (hg : w.heap[g]? = some (.cells cur t (0, 0))) (hn : o + vs.length ≤ n * s) (hw : w'.heap[g]? = some (.cells (rowPut cur o vs) t (0, 0))) :
    w'.ownsRow B t s (.slice (some ⟨g, 0, none⟩) n cap) n (xs.take o ++ vs ++ xs.drop (o + vs.length)) := by
  obtain ⟨h1, h2⟩ := h
  rcases h2 with ⟨h2, _⟩ | ⟨g', cap', cur', e, hB, hg', hc, hcm, hs, ht⟩
  · cases h2
  · simp only [Value.slice.injEq, Option.some.injEq, Addr.mk.injEq, true_and, and_true] at e
    obtain ⟨rfl, rfl⟩ := e
    rw [hg] at hg'
    simp only [Option.some.injEq, Obj.cells.injEq, and_true] at hg'
    obtain rfl := hg'
    have hl : cur.toList.length = cap * s := by rw [Array.length_toList, hs]
    have hns : n * s ≤ cap * s := Nat.mul_le_mul_right s hc
    refine ⟨by rw [List.length_append, List.length_append, List.length_take, List.length_drop]; omega, .inr ⟨g, cap, _, rfl, hB, hw, hc, hcm, by rw [rowPut_size _ _ _ (by rw [hs]; omega), hs], ?_⟩⟩
    rw [rowPut_toList, ← ht]
    rw [List.take_append, List.take_append, List.length_take, List.length_append, List.length_take, hl, Nat.min_eq_left (by omega : o ≤ cap * s)]
    rw [List.take_take, Nat.min_eq_right (by omega : o ≤ n * s), List.take_of_length_le (by omega : vs.length ≤ n * s - o), List.take_take, Nat.min_eq_left (by omega : o ≤ n * s), List.drop_take]
theorem flat_put {α : Type} {enc : α → List Value} {k : Nat} (he : ∀ x, (enc x).length = k) (t : α) : ∀ (xs : List α) (j : Nat), j < xs.length → (xs.modify j (fun _ => t)).flatMap enc = (xs.flatMap enc).take (j * k) ++ enc t ++ (xs.flatMap enc).drop (j * k + (enc t).length)
  | [], j, h => by simp at h
  | x :: xs, 0, _ => by
    rw [List.modify_zero_cons, List.flatMap_cons, List.flatMap_cons, Nat.zero_mul, List.take_zero, Nat.zero_add, List.nil_append, List.drop_left' (by rw [he, he])]
  | x :: xs, j + 1, h => by
    have ih := flat_put he t xs j (by simpa using h)
    have hx := he x
    have t1 : (enc x).take ((j + 1) * k) = enc x := List.take_of_length_le (by rw [hx, Nat.succ_mul]; omega)
    have t2 : (enc x).drop ((j + 1) * k + (enc t).length) = [] := List.drop_of_length_le (by rw [hx, Nat.succ_mul]; omega)
    rw [List.modify_succ_cons, List.flatMap_cons, List.flatMap_cons, ih, List.take_append, List.drop_append, hx, t1, t2, show (j + 1) * k - k = j * k by rw [Nat.succ_mul]; omega, show (j + 1) * k + (enc t).length - k = j * k + (enc t).length by rw [Nat.succ_mul]; omega]
    simp
/-- The first token of its key is this one. -/
def pSetT (ts : List Tkn) (t : Tkn) : List Tkn := ts.modify (ts.findIdx (isT t.o t.n)) (fun _ => t)
set_option maxHeartbeats 4000000 in
set_option maxRecDepth 1000000 in
theorem withToken_calls (ts : List Tkn) (hs : List Hol) (hn1 : ts.length ≤ 1000) (hn2 : hs.length ≤ 1000) (v : Value) (t : Tkn) (hf : ts.findIdx (isT t.o t.n) < ts.length) (w : World) (hP : PM w v ts hs) :
    Calls Tryd.prog 47 #[v, .agg (tokC t).toArray] w fun e w' => (∃ v', e = .returned v' ∧ PO w' w.heap.size v' (pSetT ts t) hs) ∧ Below w.heap.size w w' := by
  obtain ⟨p1, c1, p2, c2, rfl, hT, hH⟩ := hP
  obtain ⟨q0, q1, q2⟩ := al3 w (.cells #[.slice p1 ts.length c1, .slice p2 hs.length c2] 27) (.cells (tokC t).toArray 38) (.cells #[.slice none 0 0, .slice none 0 0] 27)
  have b0 := bel3 w (.cells #[.slice p1 ts.length c1, .slice p2 hs.length c2] 27) (.cells (tokC t).toArray 38) (.cells #[.slice none 0 0, .slice none 0 0] 27)
  have sX : (((w.alloc (.cells #[.slice p1 ts.length c1, .slice p2 hs.length c2] 27)).alloc (.cells (tokC t).toArray 38)).alloc (.cells #[.slice none 0 0, .slice none 0 0] 27)).heap.size = w.heap.size + 1 + 1 + 1 := by simp
  have hti := tokSz t
  have hon := tokOne t
  obtain ⟨X, hX⟩ : ∃ X, ((w.alloc (.cells #[.slice p1 ts.length c1, .slice p2 hs.length c2] 27)).alloc (.cells (tokC t).toArray 38)).alloc (.cells #[.slice none 0 0, .slice none 0 0] 27) = X := ⟨_, rfl⟩
  have HX := hide hX
  rw [hX] at q0 q1 q2 b0 sX
  have CT := hide (twin_calls ts hs hn1 hn2 (.agg #[.slice p1 ts.length c1, .slice p2 hs.length c2]) X ⟨p1, c1, p2, c2, rfl, hT.below b0, hH.below b0⟩)
  have CK := hide fun W => keyOf_calls t W
  have hr : pIx (isT t.o t.n) ts = (ts.findIdx (isT t.o t.n) : Int) := by unfold pIx; rw [if_pos hf]
  have CP := hide fun W (hW : Below X.heap.size X W) => tokPlace_calls ts hs hn1 hn2 p1 p2 c1 c2 t.o t.n W ((hT.below b0).below hW) ((hH.below b0).below hW)
  rw [hr] at CP
  have hJT : pSetT ts t = ts.modify (ts.findIdx (isT t.o t.n)) (fun _ => t) := rfl
  obtain ⟨J, hJ⟩ : ∃ J, ts.findIdx (isT t.o t.n) = J := ⟨_, rfl⟩
  rw [hJ] at hf CP hJT
  have HF := flat_put tokC_len t ts J hf
  rw [← hJT] at HF
  have hlen : (pSetT ts t).length = ts.length := by rw [hJT, List.length_modify]
  have hTC := tokC_len t
  generalize pSetT ts t = TS at *
  generalize tkv t.o t.n = KY at *
  obtain ⟨C, hC⟩ : ∃ C, tokC t = C := ⟨_, rfl⟩
  rw [hC] at q1 hti hon HX CK HF hTC
  rw [hC]
  have Q0 := hide q0
  have Q1 := hide q1
  have Q2 := hide q2
  have B0 := hide b0
  have SX := hide sX
  have HFF := hide HF
  have HLL := hide hlen
  have PS := hide fun v1 v2 => purSz v1 v2
  have HTI := hide hti
  have HON := hide hon
  have HTC := hide hTC
  clear hT hH hX q1 q2 b0 sX hn1 hn2 hr hJT HF hC hlen hJ hti hon hTC
  go_enter Tryd.func47, Tryd.ntmps47
  go_upto_region 1 with fail
  change Code.wp _ _ _ _ (((w.alloc (.cells #[.slice p1 ts.length c1, .slice p2 hs.length c2] 27)).alloc (.cells C.toArray 38)).alloc (.cells #[.slice none 0 0, .slice none 0 0] 27))
  rw [unhide HX]
  go_wp2_with (refine wpList_load_row rfl 27 (.tmp 2) rfl w.heap.size rfl 27 _ (0, 0) _ q0 Tryd.underlying27 rfl (unhide PS _ _) ?_)
  refine (unhide CT).mono ?_
  rintro e w2 ⟨⟨v', rfl, u1, u2, rfl, own1, own2⟩, b2⟩
  have one2 := two_one u1 u2 (owns_one own1) (owns_one own2)
  have O1 := hide own1
  have O2 := hide own2
  have B2 := hide b2
  clear own1 own2 b2 CT q0
  go_upto_region 2 with (refine wpList_store_newV rfl 27 (.tmp 5) (.tmp 7) rfl w2 #[.slice none 0 0, .slice none 0 0] _ #[u1, u2] rfl rfl (unhide PS _ _) rfl one2 ?_; intro w3 q7 b3 z3)
  have z2 := (unhide B2).size
  have S3 : Hid (Below X.heap.size X w3) := hide ((unhide B2).trans (b3.mono z2))
  have V3 : Hid (QV w3 X.heap.size w2.heap.size u1 u2 ts hs) := hide ⟨q7, vowns_below (unhide O1) b3, vowns_below (unhide O2) b3⟩
  obtain ⟨G, hG⟩ : ∃ G, w2.heap.size = G := ⟨_, rfl⟩
  rw [hG] at V3
  simp only [hG]
  clear q7 b3 z3 z2 hG B2 O1 O2
  obtain ⟨p, cp, hp⟩ : ∃ p cp, u1 = .slice p ts.length cp := by
    obtain ⟨p, cp, e, _⟩ := EL_of_owns tokC_len (unhide V3).tok
    exact ⟨p, cp, e⟩
  subst hp
  obtain ⟨g1, cur, rfl, hBg, hg1, hcs, hnc⟩ := owns_block (unhide V3).tok (by omega)
  have hGlt := (Array.getElem?_eq_some_iff.1 (unhide V3).row).1
  have S3z := (unhide S3).size
  have R : ∀ (k : Nat) (ob : Obj), w3.heap[k]? = some ob → Hid (∀ w', (∃ p : Regrown, w' = Sort.grow (redrawn w3 p.d) p.os) → w'.heap[k]? = some ob) := fun k ob hk => hide fun w' ⟨p, hp⟩ => by rw [hp]; exact Below.at (below_regrown w3 p.d p.os) (Array.getElem?_eq_some_iff.1 hk).1 hk
  have RG := R _ _ (unhide V3).row
  have R0 := R _ _ (Below.at (unhide S3) (by have := unhide SX; omega) (unhide Q0))
  have R1 := R _ _ (Below.at (unhide S3) (by have := unhide SX; omega) (unhide Q1))
  have RC : ∀ d os, (Sort.grow (redrawn w3 d) os).cell? ⟨G, 0, none⟩ = some (.slice (some ⟨g1, 0, none⟩) ts.length cp) := fun d os => cell_of_row _ _ _ _ _ _ (unhide RG _ ⟨⟨d, os⟩, rfl⟩)
  have kK := hide fun d os => Calls.regrown_of (w := w3) (d := d) (os := os) (unhide CK _)
  have kP := hide fun d os => Calls.regrown_of (w := w3) (d := d) (os := os) (unhide CP _ ((unhide S3).trans ((below_regrown w3 d os).mono (unhide S3).size)))
  have hlt' : (J : Int) < (ts.length : Int) := by omega
  have dlt : decide (J < ts.length) = true := by simpa using hf
  have HG1 := hide hg1
  have HCS := hide hcs
  have HBG := hide hBg
  have Hf := hide hf
  clear R hg1 hcs hnc hBg CK CP S3z hGlt
  refine wp_region_below_tail 8 mixed (by kernel_rfl) ?_
  quiet_step (fail)
  quiet_step (fail)
  refine wpQuiet_load_row rfl 27 (.tmp 2) rfl w.heap.size rfl 27 _ (0, 0) _ (unhide R0) Tryd.underlying27 rfl (unhide PS _ _) ?_
  refine wpQuiet_load_row rfl 38 (.tmp 3) rfl (w.heap.size + 1) rfl 38 C.toArray (0, 0) _ (unhide R1) Tryd.underlying38 rfl (unhide HTI) ?_
  quiet_step (exact unhide kK _ _)
  quiet_step (exact unhide kP _ _)
  refine wpQuiet_load_row rfl 38 (.tmp 3) rfl (w.heap.size + 1) rfl 38 C.toArray (0, 0) _ (unhide R1) Tryd.underlying38 rfl (unhide HTI) ?_
  quiet_step (fail)
  refine wpQuiet_nil ?_
  intro w5 b5
  have g5 := Below.at b5 (Array.getElem?_eq_some_iff.1 (unhide HG1)).1 (unhide HG1)
  have V5 := hide ((unhide V3).below b5)
  have S5 : Hid (Below X.heap.size X w5) := hide ((unhide S3).trans (b5.mono (unhide S3).size))
  clear b5 V3 S3 RG R0 R1 RC kK kP
  have hle : J * 7 + C.toArray.size ≤ cur.size := by
    have h1 := unhide HTC
    have h2 : C.toArray.size = C.length := rfl
    have := unhide HCS
    have := unhide Hf
    have h3 := (unhide V5).tok
    have h4 : ts.length ≤ cp := (owns_cap h3).1
    omega
  refine wpList_store_k rfl 38 (.tmp 15) (.tmp 14) rfl g1 (J * 7) cur C.toArray 38 rfl rfl g5 hle (unhide HTI) (unhide HON) ?_
  intro w6 r6 o6 z6 u6
  have hl7 : J * 7 + C.length ≤ ts.length * 7 := by have := unhide HTC; have := unhide Hf; omega
  have V6 : QV w6 X.heap.size G (.slice (some ⟨g1, 0, none⟩) ts.length cp) u2 TS hs := by
    have h3 := owns_put (unhide V5).tok g5 (o := J * 7) (vs := C) hl7 r6
    rw [← unhide HFF] at h3
    refine ⟨(o6 G fun e => ?_).trans (unhide V5).row, by rw [unhide HLL]; exact h3, vowns_other (unhide V5).hol o6 cur 38 (by decide) g5⟩
    rw [← e, (unhide V5).row] at g5
    simp only [Option.some.injEq, Obj.cells.injEq] at g5
    exact absurd g5.2.1 (by decide)
  have S6 : Below X.heap.size X w6 := (unhide S5).trans (u6 _ (unhide HBG))
  have r8 := Below.at S6 (by have := unhide SX; omega) (unhide Q2)
  have r7 := V6.row
  have F1 := hide ((V6.out _ #[.slice (some ⟨g1, 0, none⟩) ts.length cp, u2] r8).base (unhide B0).size)
  have F2 : Hid (Below w.heap.size w (w6.setRow (w.heap.size + 1 + 1) #[.slice (some ⟨g1, 0, none⟩) ts.length cp, u2])) := hide (((unhide B0).trans (S6.mono (unhide B0).size)).trans (below_setRow (Below.refl _ _) (by omega) _))
  clear V6 S6 u6 z6 o6 r6 V5 S5 g5 hl7 hle
  go_wp2_with (first
    | (refine wpList_load_row rfl 27 (.tmp 5) rfl G rfl 27 _ (0, 0) _ r7 Tryd.underlying27 rfl (unhide PS _ _) ?_)
    | (refine wpList_store_row rfl 27 (.tmp 4) (.tmp 16) rfl (w.heap.size + 1 + 1) _ rfl rfl 27 _ r8 (unhide PS _ _) rfl one2 ?_))
  exact bodyPost_ret (results_cell_row rfl _ _ (w.heap.size + 1 + 1) _ _ _ _ rfl (setRow_heap _ _ _ _ _ _ r8) Tryd.underlying27 rfl (unhide PS _ _)) rfl ⟨⟨_, rfl, unhide F1⟩, unhide F2⟩
end Go.Proofs.YtjfnaedcdmmigaaDoor

namespace Go.Proofs
open Go.Shelf
namespace YtjfnaedcdmmigaaDoor
open Go.RowKit
set_option linter.unusedSimpArgs false
set_option linter.unusedVariables false

theorem add64_run (x y c : Nat) (hc : c ≤ 1) (w : World) :
    (callFunc 40 #[.int .u64 (x : Int), .int .u64 (y : Int), .int .u64 (c : Int)]).run Tryd.prog w =
      .ok (.value (.tuple #[.int .u64 (((x + y + c) % 18446744073709551616 : Nat) : Int), .int .u64 (((x + y + c) / 18446744073709551616 : Nat) : Int)])) w := by
  rw [run_callFunc_extern Tryd.func40 (by kernel_rfl) (by kernel_rfl) (by kernel_rfl) (e := add64Entry) (by kernel_rfl), run_add64 x y c (by omega) (by omega) (by omega) (by omega)]
  simp only [Result.andThen]
  congr 5 <;> omega
def sub64E : Array Value → Sem Value := fun args => do
  let (x, y, b) ← Extern.MathBitsCarry.three "Sub64" args
  pure (Extern.MathBitsCarry.pair ((x + Extern.MathBitsCarry.m64 - y - b) % Extern.MathBitsCarry.m64) (if x < y + b then 1 else 0))
theorem sub64E_run {P : Program} (x y b : Nat) (hb : b ≤ 1) (w : World) :
    (sub64E #[.int .u64 x, .int .u64 y, .int .u64 b]).run P w =
      .ok (.tuple #[.int .u64 (((x + 18446744073709551616 - y - b) % 18446744073709551616 : Nat) : Int), .int .u64 ((if x < y + b then 1 else 0 : Nat) : Int)]) w := by
  have : b = 0 ∨ b = 1 := by omega
  rcases this with rfl | rfl <;> rfl
/-- A sum with its error. -/
def pAdd (a b : Nat) : Nat × Nat := if 18446744073709551616 ≤ a + b then (0, 10) else (a + b, 0)
def pSub (a b : Nat) : Nat × Nat := if a < b then (0, 11) else (a - b, 0)
theorem amtAdd_calls (a b : Nat) (ha : a < 18446744073709551616) (hb : b < 18446744073709551616) (w : World) :
    Calls Tryd.prog 46 #[.int .u64 (a : Int), .int .u64 (b : Int)] w fun e w' => e = .returned (.tuple #[.int .u64 ((pAdd a b).1 : Int), .int .i64 ((pAdd a b).2 : Int)]) ∧ w' = w := by
  have h : ∀ w, (callFunc 40 #[.int .u64 (a : Int), .int .u64 (b : Int), .int .u64 0]).run Tryd.prog w =
      .ok (.value (.tuple #[.int .u64 (((a + b + 0) % 18446744073709551616 : Nat) : Int), .int .u64 (((a + b + 0) / 18446744073709551616 : Nat) : Int)])) w := fun w => add64_run a b 0 (by omega) w
  unfold pAdd
  go_enter Tryd.func46, Tryd.ntmps46
  by_cases hc : 18446744073709551616 ≤ a + b
  · rw [if_pos hc]
    have e : (a + b + 0) / 18446744073709551616 = 1 := by omega
    rw [e] at h
    generalize (a + b + 0) % 18446744073709551616 = s at h
    go_wp2_with (simp only [h])
    go_ret2
    exact ⟨rfl, rfl⟩
  · rw [if_neg hc]
    have e : (a + b + 0) / 18446744073709551616 = 0 := by omega
    have e' : (a + b + 0) % 18446744073709551616 = a + b := by omega
    rw [e, e'] at h
    generalize a + b = s at *
    go_wp2_with (simp only [h])
    go_ret2
    exact ⟨rfl, rfl⟩
theorem amtSub_calls (a b : Nat) (ha : a < 18446744073709551616) (hb : b < 18446744073709551616) (w : World) :
    Calls Tryd.prog 42 #[.int .u64 (a : Int), .int .u64 (b : Int)] w fun e w' => e = .returned (.tuple #[.int .u64 ((pSub a b).1 : Int), .int .i64 ((pSub a b).2 : Int)]) ∧ w' = w := by
  unfold pSub
  go_enter Tryd.func42, Tryd.ntmps42
  by_cases hc : a < b
  · rw [if_pos hc]
    go_wp2
    go_ret2
    exact ⟨rfl, rfl⟩
  · rw [if_neg hc]
    go_wp2
    go_ret2
    refine ⟨?_, rfl⟩
    congr 4
    go_num
theorem refAdd_calls (a b : Nat) (ha : a < 18446744073709551616) (hb : b < 18446744073709551616) (w : World) :
    Calls Tryd.prog 64 #[.int .u64 (a : Int), .int .u64 (b : Int)] w fun e w' => e = .returned (.tuple #[.int .u64 ((pAdd a b).1 : Int), .int .i64 ((pAdd a b).2 : Int)]) ∧ w' = w := by
  unfold pAdd
  go_enter Tryd.func64, Tryd.ntmps64
  by_cases hc : 18446744073709551616 ≤ a + b
  · rw [if_pos hc]
    go_wp2
    go_ret2
    exact ⟨rfl, rfl⟩
  · rw [if_neg hc]
    go_wp2
    go_ret2
    refine ⟨?_, rfl⟩
    congr 4
end YtjfnaedcdmmigaaDoor
end Go.Proofs

namespace Go.Proofs.YtjfnaedcdmmigaaDoor
open Go.RowKit
set_option linter.unusedSimpArgs false
set_option linter.unusedVariables false

theorem set2 (w : World) (g : Nat) (t : TypeId) (z0 z1 v0 v1 : Value) (hg : w.heap[g]? = some (.cells #[z0, z1] t (0, 0))) : ((w.setCell ⟨g, 0, none⟩ v0).setCell ⟨g, 1, none⟩ v1).heap[g]? = some (.cells #[v0, v1] t (0, 0)) := by
  have h0 : (w.setCell ⟨g, 0, none⟩ v0).heap[g]? = some (.cells #[v0, z1] t (0, 0)) := heap_setCell_same _ g 0 _ t v0 hg
  have h1 : ((w.setCell ⟨g, 0, none⟩ v0).setCell ⟨g, 1, none⟩ v1).heap[g]? = some (.cells #[v0, v1] t (0, 0)) := heap_setCell_same _ g 1 _ t v1 h0
  exact h1
theorem set4 (w : World) (g : Nat) (t : TypeId) (z0 z1 z2 z3 v0 v1 v2 v3 : Value) (hg : w.heap[g]? = some (.cells #[z0, z1, z2, z3] t (0, 0))) : ((((w.setCell ⟨g, 0, none⟩ v0).setCell ⟨g, 1, none⟩ v1).setCell ⟨g, 2, none⟩ v2).setCell ⟨g, 3, none⟩ v3).heap[g]? = some (.cells #[v0, v1, v2, v3] t (0, 0)) := by
  have h0 : (w.setCell ⟨g, 0, none⟩ v0).heap[g]? = some (.cells #[v0, z1, z2, z3] t (0, 0)) := heap_setCell_same _ g 0 _ t v0 hg
  have h1 : ((w.setCell ⟨g, 0, none⟩ v0).setCell ⟨g, 1, none⟩ v1).heap[g]? = some (.cells #[v0, v1, z2, z3] t (0, 0)) := heap_setCell_same _ g 1 _ t v1 h0
  have h2 : (((w.setCell ⟨g, 0, none⟩ v0).setCell ⟨g, 1, none⟩ v1).setCell ⟨g, 2, none⟩ v2).heap[g]? = some (.cells #[v0, v1, v2, z3] t (0, 0)) := heap_setCell_same _ g 2 _ t v2 h1
  exact heap_setCell_same _ g 3 _ t v3 h2
theorem bset2 {B : Nat} {w w' : World} (h : Below B w w') {g : Nat} (hg : B ≤ g) (v0 v1 : Value) : Below B w ((w'.setCell ⟨g, 0, none⟩ v0).setCell ⟨g, 1, none⟩ v1) := (h.setCell (p := ⟨g, 0, none⟩) hg v0).setCell (p := ⟨g, 1, none⟩) hg v1
theorem bset2' {B : Nat} {w w' : World} (h : Below B w w') {g : Nat} (hg : B ≤ g) (v0 v1 : Value) : Below B w ((w'.setCell ⟨g, 2, none⟩ v0).setCell ⟨g, 3, none⟩ v1) := (h.setCell (p := ⟨g, 2, none⟩) hg v0).setCell (p := ⟨g, 3, none⟩) hg v1
theorem bset4 {B : Nat} {w w' : World} (h : Below B w w') {g : Nat} (hg : B ≤ g) (v0 v1 v2 v3 : Value) : Below B w ((((w'.setCell ⟨g, 0, none⟩ v0).setCell ⟨g, 1, none⟩ v1).setCell ⟨g, 2, none⟩ v2).setCell ⟨g, 3, none⟩ v3) := bset2' (bset2 h hg v0 v1) hg v2 v3
theorem wrap_div (lo y : Nat) (hl : lo < 18446744073709551616) : IntKind.u64.wrap ((lo : Int) / (y : Int)) = ((lo / y : Nat) : Int) := by
  have := Nat.div_le_self lo y
  rw [IntKind.wrap_u64, ← Int.natCast_ediv]
  generalize lo / y = q at *
  omega
end Go.Proofs.YtjfnaedcdmmigaaDoor

namespace Go.Proofs.YtjfnaedcdmmigaaDoor
open Go Go.RowKit
set_option linter.unusedSimpArgs false
set_option linter.unusedVariables false

theorem pHe_lt {hs : List Hol} (hok : ∀ h ∈ hs, h.ok) (o : Nat) (n a : List UInt8) : pHe hs o n a < 18446744073709551616 := by
  unfold pHe
  cases h : hs.find? (isH o n a) with
  | none => simp
  | some x => exact (hok x (List.mem_of_find?_eq_some h)).2.2.2
/-- Somebody holds so much less. -/
def pLess (hs : List Hol) (o : Nat) (n a : List UInt8) (k : Nat) : List Hol × Nat := if pHe hs o n a < k then (hs, 11) else (pWith hs o n a (pHe hs o n a - k), 0)
/-- Somebody holds so much more. -/
def pGrant (ts : List Tkn) (hs : List Hol) (o : Nat) (n a : List UInt8) (k : Nat) : List Hol × Nat :=
  if (pKn ts o n).isSome then (if pRight a then (if pHe hs o n a + k < 18446744073709551616 then (pWith hs o n a (pHe hs o n a + k), 0) else (hs, 10)) else (hs, 7)) else (hs, 40)
theorem PO.parts {w : World} {B : Nat} {v : Value} {ts : List Tkn} {hs : List Hol} (h : PO w B v ts hs) : ∃ v1 v2, v = .agg #[v1, v2] ∧ (#[v1, v2] : Array Value).all (·.oneCell') = true := by
  obtain ⟨v1, v2, rfl, h1, h2⟩ := h
  exact ⟨v1, v2, rfl, two_one v1 v2 (owns_one h1) (owns_one h2)⟩
def zPur : Array Value := #[.slice none 0 0, .slice none 0 0]
/-- What is answered is laid into the result's own block. -/
theorem out_set {w0 w : World} {B C G : Nat} {v : Value} {ts : List Tkn} {hs : List Hol} (h : PO w B v ts hs) (hC : C ≤ B) (hG : C ≤ G) (hr : w.heap[G]? = some (.cells zPur 27 (0, 0))) (hb : Below C w0 w) (D : Array Value) : PO (w.setRow G D) C v ts hs ∧ Below C w0 (w.setRow G D) :=
  ⟨(h.other (fun k hk => setRow_other _ _ _ _ hk) zPur 27 (by decide) (by decide) hr).base hC, hb.trans (below_setRow (Below.refl _ _) hG _)⟩
set_option maxHeartbeats 4000000 in
set_option maxRecDepth 1000000 in
theorem less_calls (ts : List Tkn) (hs : List Hol) (hn1 : ts.length ≤ 1000) (hn2 : hs.length ≤ 1000) (hok : ∀ h ∈ hs, h.ok) (v : Value) (o : Nat) (n a : List UInt8) (hnl : n.length ≤ 1000) (hal : a.length ≤ 1000) (k : Nat) (hk : k < 18446744073709551616) (w : World) (hU : UTabs w) (hP : PM w v ts hs) :
    Calls Tryd.prog 44 #[v, .agg (hkv o n a), .int .u64 (k : Int)] w fun e w' => (∃ v', e = .returned (.tuple #[v', .int .i64 ((pLess hs o n a k).2 : Int)]) ∧ PO w' w.heap.size v' ts (pLess hs o n a k).1) ∧ Below w.heap.size w w' := by
  obtain ⟨p1, c1, p2, c2, rfl, hT, hH⟩ := hP
  obtain ⟨q0, q1, q2⟩ := al3 w (.cells #[.slice p1 ts.length c1, .slice p2 hs.length c2] 27) (.cells (hkv o n a) 81) (.cells zPur 27)
  have b0 := bel3 w (.cells #[.slice p1 ts.length c1, .slice p2 hs.length c2] 27) (.cells (hkv o n a) 81) (.cells zPur 27)
  have sX : (((w.alloc (.cells #[.slice p1 ts.length c1, .slice p2 hs.length c2] 27)).alloc (.cells (hkv o n a) 81)).alloc (.cells zPur 27)).heap.size = w.heap.size + 1 + 1 + 1 := by simp
  have hik := hkInfo o n a
  have hlt := pHe_lt hok o n a
  obtain ⟨X, hX⟩ : ∃ X, ((w.alloc (.cells #[.slice p1 ts.length c1, .slice p2 hs.length c2] 27)).alloc (.cells (hkv o n a) 81)).alloc (.cells zPur 27) = X := ⟨_, rfl⟩
  have HX := hide hX
  rw [hX] at q0 q1 q2 b0 sX
  have PX : PM X (.agg #[.slice p1 ts.length c1, .slice p2 hs.length c2]) ts hs := ⟨p1, c1, p2, c2, rfl, hT.below b0, hH.below b0⟩
  have CH := hide (held_calls ts hs hn1 hn2 _ o n a X PX)
  have CT := hide fun W (hW : Below X.heap.size X W) => twin_calls ts hs hn1 hn2 _ W (PX.below hW)
  have CW := hide fun m W (hW : Below X.heap.size X W) => withHeld_calls ts hs hn1 hn2 hok _ o n a hnl hal m W ((hU.below' b0).below' hW) (PX.below hW)
  have CS := hide fun W => amtSub_calls (pHe hs o n a) k hlt hk W
  have HL : Hid (pLess hs o n a k = if pHe hs o n a < k then (hs, 11) else (pWith hs o n a (pHe hs o n a - k), 0)) := hide rfl
  obtain ⟨R, hR⟩ : ∃ R, pLess hs o n a k = R := ⟨_, rfl⟩
  rw [hR] at HL
  rw [hR]
  generalize pHe hs o n a = M at *
  obtain ⟨KY, hKY⟩ : ∃ K, hkv o n a = K := ⟨_, rfl⟩
  rw [hKY] at q1 hik HX CH CW
  rw [hKY]
  have Q2 := hide q2
  have Q0 := hide q0
  have Q1 := hide q1
  have B0 := hide b0
  have SX := hide sX
  have HK := hide hk
  have HM := hide hlt
  have PS := hide fun v1 v2 => purSz v1 v2
  unfold zPur at HX
  clear hT hH hX PX q2 b0 sX hn1 hn2 hok hnl hal hU hR hKY hlt hk
  go_enter Tryd.func44, Tryd.ntmps44
  go_upto_region 1 with fail
  change Code.wp _ _ _ _ (((w.alloc (.cells #[.slice p1 ts.length c1, .slice p2 hs.length c2] 27)).alloc (.cells KY 81)).alloc (.cells #[.slice none 0 0, .slice none 0 0] 27))
  rw [unhide HX]
  go_wp2_with (first
    | (refine wpList_load_row rfl 27 (.tmp 3) rfl w.heap.size rfl 27 _ (0, 0) _ q0 Tryd.underlying27 rfl (unhide PS _ _) ?_)
    | (refine wpList_load_row rfl 81 (.tmp 4) rfl (w.heap.size + 1) rfl 81 _ (0, 0) _ q1 Tryd.underlying81 rfl hik ?_))
  refine (unhide CH).mono ?_
  rintro e w2 ⟨rfl, b2⟩
  have S2 : Hid (Below X.heap.size X w2) := hide b2
  clear b2 CH q0 q1
  go_wp2_with fail
  refine (unhide CS _).mono ?_
  rintro e w3 ⟨rfl, rfl⟩
  have k0 := Below.at (unhide S2) (by have := unhide SX; omega) (unhide Q0)
  have k1 := Below.at (unhide S2) (by have := unhide SX; omega) (unhide Q1)
  by_cases hlt : M < k
  · have e1 : pSub M k = (0, 11) := by unfold pSub; rw [if_pos hlt]
    have HR := unhide HL
    rw [if_pos hlt] at HR
    subst HR
    rw [e1]
    clear HL hlt e1 k1
    go_wp2_with (refine wpList_load_row rfl 27 (.tmp 3) rfl w.heap.size rfl 27 _ (0, 0) _ k0 Tryd.underlying27 rfl (unhide PS _ _) ?_)
    refine (unhide CT _ (unhide S2)).mono ?_
    rintro e w4 ⟨⟨v', rfl, po⟩, b4⟩
    obtain ⟨u1, u2, rfl, one⟩ := po.parts
    have S4 := (unhide S2).trans (b4.mono (unhide S2).size)
    have r4 := Below.at S4 (by have := unhide SX; omega) (unhide Q2)
    have F := hide (out_set (C := w.heap.size) po (by have := (unhide S2).size; have := (unhide B0).size; omega) (by omega) r4 ((unhide B0).trans (S4.mono (unhide B0).size)) #[u1, u2])
    clear po b4 S4 k0 CT CW
    go_wp2_with (refine wpList_store_row rfl 27 (.tmp 6) (.tmp 21) rfl (w.heap.size + 1 + 1) _ rfl rfl 27 _ r4 (unhide PS _ _) rfl one ?_)
    exact bodyPost_ret (results_row_tmp rfl _ _ (w.heap.size + 1 + 1) _ _ _ _ rfl (setRow_heap _ _ _ _ _ _ r4) Tryd.underlying27 rfl (unhide PS _ _)) rfl ⟨⟨_, rfl, (unhide F).1⟩, (unhide F).2⟩
  · have e1 : pSub M k = (M - k, 0) := by unfold pSub; rw [if_neg hlt]
    have HR := unhide HL
    rw [if_neg hlt] at HR
    subst HR
    rw [e1]
    have CW4 := hide (unhide CW (M - k) _ (unhide S2))
    clear HL hlt e1 CW CT
    go_wp2_with (first
      | (refine wpList_load_row rfl 27 (.tmp 3) rfl w.heap.size rfl 27 _ (0, 0) _ k0 Tryd.underlying27 rfl (unhide PS _ _) ?_)
      | (refine wpList_load_row rfl 81 (.tmp 4) rfl (w.heap.size + 1) rfl 81 _ (0, 0) _ k1 Tryd.underlying81 rfl hik ?_))
    refine (unhide CW4).mono ?_
    rintro e w4 ⟨⟨v', rfl, po⟩, b4⟩
    obtain ⟨u1, u2, rfl, one⟩ := po.parts
    have S4 := (unhide S2).trans (b4.mono (unhide S2).size)
    have r4 := Below.at S4 (by have := unhide SX; omega) (unhide Q2)
    have F := hide (out_set (C := w.heap.size) po (by have := (unhide S2).size; have := (unhide B0).size; omega) (by omega) r4 ((unhide B0).trans (S4.mono (unhide B0).size)) #[u1, u2])
    clear po b4 S4 k0 k1 CW4
    go_wp2_with (refine wpList_store_row rfl 27 (.tmp 6) (.tmp 26) rfl (w.heap.size + 1 + 1) _ rfl rfl 27 _ r4 (unhide PS _ _) rfl one ?_)
    exact bodyPost_ret (results_row_tmp rfl _ _ (w.heap.size + 1 + 1) _ _ _ _ rfl (setRow_heap _ _ _ _ _ _ r4) Tryd.underlying27 rfl (unhide PS _ _)) rfl ⟨⟨_, rfl, (unhide F).1⟩, (unhide F).2⟩
end Go.Proofs.YtjfnaedcdmmigaaDoor

namespace Go.Proofs.YtjfnaedcdmmigaaDoor
open Go Go.RowKit
set_option linter.unusedSimpArgs false
set_option linter.unusedVariables false

set_option maxHeartbeats 4000000 in
set_option maxRecDepth 1000000 in
theorem grant_calls (ts : List Tkn) (hs : List Hol) (hn1 : ts.length ≤ 1000) (hn2 : hs.length ≤ 1000) (hok : ∀ h ∈ hs, h.ok) (v : Value) (o : Nat) (n a : List UInt8) (hnl : n.length ≤ 1000) (hal : a.length ≤ 1000) (k : Nat) (hk : k < 18446744073709551616) (w : World) (hU : UTabs w) (hP : PM w v ts hs) :
    Calls Tryd.prog 24 #[v, .int .u32 (o : Int), .string (str n), .string (str a), .int .u64 (k : Int)] w fun e w' => (∃ v', e = .returned (.tuple #[v', .int .i64 ((pGrant ts hs o n a k).2 : Int)]) ∧ PO w' w.heap.size v' ts (pGrant ts hs o n a k).1) ∧ Below w.heap.size w w' := by
  obtain ⟨p1, c1, p2, c2, rfl, hT, hH⟩ := hP
  obtain ⟨q0, q1⟩ := al2 w (.cells #[.slice p1 ts.length c1, .slice p2 hs.length c2] 27) (.cells zPur 27)
  have b0 := bel2 w (.cells #[.slice p1 ts.length c1, .slice p2 hs.length c2] 27) (.cells zPur 27)
  have sX : ((w.alloc (.cells #[.slice p1 ts.length c1, .slice p2 hs.length c2] 27)).alloc (.cells zPur 27)).heap.size = w.heap.size + 1 + 1 := by simp
  have hik := hkInfo o n a
  have hlt := pHe_lt hok o n a
  obtain ⟨X, hX⟩ : ∃ X, (w.alloc (.cells #[.slice p1 ts.length c1, .slice p2 hs.length c2] 27)).alloc (.cells zPur 27) = X := ⟨_, rfl⟩
  have HX := hide hX
  rw [hX] at q0 q1 b0 sX
  have PX : PM X (.agg #[.slice p1 ts.length c1, .slice p2 hs.length c2]) ts hs := ⟨p1, c1, p2, c2, rfl, hT.below b0, hH.below b0⟩
  have CN := hide (known_calls ts hs hn1 hn2 _ o n X PX)
  have CH := hide fun W (hW : Below X.heap.size X W) => held_calls ts hs hn1 hn2 _ o n a W (PX.below hW)
  have CT := hide fun W (hW : Below X.heap.size X W) => twin_calls ts hs hn1 hn2 _ W (PX.below hW)
  have CW := hide fun m W (hW : Below X.heap.size X W) => withHeld_calls ts hs hn1 hn2 hok _ o n a hnl hal m W ((hU.below' b0).below' hW) (PX.below hW)
  have CR := hide fun W => right_calls a (by omega) W
  have CS := hide fun W => amtAdd_calls (pHe hs o n a) k hlt hk W
  have HL : Hid (pGrant ts hs o n a k = if (pKn ts o n).isSome then (if pRight a then (if pHe hs o n a + k < 18446744073709551616 then (pWith hs o n a (pHe hs o n a + k), 0) else (hs, 10)) else (hs, 7)) else (hs, 40)) := hide rfl
  obtain ⟨R, hR⟩ : ∃ R, pGrant ts hs o n a k = R := ⟨_, rfl⟩
  rw [hR] at HL
  rw [hR]
  have TZ := hide fun t => tokSz t
  have TO := hide fun t => tokOne t
  generalize pHe hs o n a = M at *
  generalize (pKn ts o n).getD zTok = KT at *
  generalize (pKn ts o n).isSome = KI at *
  generalize pRight a = RA at *
  have kv : hkv o n a = #[.int .u32 (o : Int), .string (str n), .string (str a)] := rfl
  rw [kv] at hik CH CW
  have QR := hide q1
  have Q0 := hide q0
  have B0 := hide b0
  have SX := hide sX
  have PS := hide fun v1 v2 => purSz v1 v2
  unfold zPur at HX
  clear hT hH hX PX q1 b0 sX hn1 hn2 hok hnl hal hU hR hlt hk kv
  go_enter Tryd.func24, Tryd.ntmps24
  go_upto_region 1 with fail
  change Code.wp _ _ _ _ ((w.alloc (.cells #[.slice p1 ts.length c1, .slice p2 hs.length c2] 27)).alloc (.cells #[.slice none 0 0, .slice none 0 0] 27))
  rw [unhide HX]
  go_wp2_with (refine wpList_load_row rfl 27 (.tmp 5) rfl w.heap.size rfl 27 _ (0, 0) _ q0 Tryd.underlying27 rfl (unhide PS _ _) ?_)
  refine (unhide CN).mono ?_
  rintro e w2 ⟨rfl, b2⟩
  obtain ⟨CC, hCC⟩ : ∃ C, (tokC KT).toArray = C := ⟨_, rfl⟩
  have tinf := unhide TZ KT
  have tone := unhide TO KT
  have tsz : CC.size = 7 := by rw [← hCC]; rfl
  rw [hCC] at tinf tone
  rw [hCC]
  have S2 : Hid (Below X.heap.size X w2) := hide b2
  clear b2 CN q0 hCC
  go_upto_region 2 with (refine wpList_store_newV rfl 38 (.tmp 12) (.tmp 22) rfl w2 _ _ CC rfl rfl tinf (by rw [tsz]; rfl) tone ?_; intro w3 q3 b3 z3)
  have S3 : Hid (Below X.heap.size X w3) := hide ((unhide S2).trans (b3.mono (unhide S2).size))
  obtain ⟨G, hG⟩ : ∃ G, w2.heap.size = G := ⟨_, rfl⟩
  simp only [hG]
  clear q3 b3 z3 S2 hG tinf tone tsz TZ TO
  have k0 := Below.at (unhide S3) (by have := unhide SX; omega) (unhide Q0)
  cases KI with
  | false =>
    have HR := unhide HL
    rw [if_neg (by simp)] at HR
    subst HR
    clear HL CH CW CR CS
    go_wp2_with (refine wpList_load_row rfl 27 (.tmp 5) rfl w.heap.size rfl 27 _ (0, 0) _ k0 Tryd.underlying27 rfl (unhide PS _ _) ?_)
    refine (unhide CT _ (unhide S3)).mono ?_
    rintro e wz ⟨⟨v', rfl, po⟩, bz⟩
    obtain ⟨u1, u2, rfl, one⟩ := po.parts
    have SZ := (unhide S3).trans (bz.mono (unhide S3).size)
    have rz := Below.at SZ (by have := unhide SX; omega) (unhide QR)
    have F := hide (out_set (C := w.heap.size) po (by have := (unhide S3).size; have := (unhide B0).size; omega) (by omega) rz ((unhide B0).trans (SZ.mono (unhide B0).size)) #[u1, u2])
    clear po bz SZ k0
    go_wp2_with (refine wpList_store_row rfl 27 (.tmp 10) (.tmp 27) rfl (w.heap.size + 1) _ rfl rfl 27 _ rz (unhide PS _ _) rfl one ?_)
    exact bodyPost_ret (results_row_tmp rfl _ _ (w.heap.size + 1) _ _ _ _ rfl (setRow_heap _ _ _ _ _ _ rz) Tryd.underlying27 rfl (unhide PS _ _)) rfl ⟨⟨_, rfl, (unhide F).1⟩, (unhide F).2⟩
  | true =>
    have HR := unhide HL
    rw [if_pos rfl] at HR
    have HL2 := hide HR
    clear HR HL k0
    go_wp2_with fail
    refine (unhide CR _).mono ?_
    rintro e w4 ⟨rfl, b4⟩
    have S4 : Hid (Below X.heap.size X w4) := hide ((unhide S3).trans (b4.mono (unhide S3).size))
    have k0 := Below.at (unhide S4) (by have := unhide SX; omega) (unhide Q0)
    clear b4 S3 CR
    cases RA with
    | false =>
      have HR := unhide HL2
      rw [if_neg (by simp)] at HR
      subst HR
      clear HL2 CH CW CS
      go_wp2_with (refine wpList_load_row rfl 27 (.tmp 5) rfl w.heap.size rfl 27 _ (0, 0) _ k0 Tryd.underlying27 rfl (unhide PS _ _) ?_)
      refine (unhide CT _ (unhide S4)).mono ?_
      rintro e wz ⟨⟨v', rfl, po⟩, bz⟩
      obtain ⟨u1, u2, rfl, one⟩ := po.parts
      have SZ := (unhide S4).trans (bz.mono (unhide S4).size)
      have rz := Below.at SZ (by have := unhide SX; omega) (unhide QR)
      have F := hide (out_set (C := w.heap.size) po (by have := (unhide S4).size; have := (unhide B0).size; omega) (by omega) rz ((unhide B0).trans (SZ.mono (unhide B0).size)) #[u1, u2])
      clear po bz SZ k0
      go_wp2_with (refine wpList_store_row rfl 27 (.tmp 10) (.tmp 32) rfl (w.heap.size + 1) _ rfl rfl 27 _ rz (unhide PS _ _) rfl one ?_)
      exact bodyPost_ret (results_row_tmp rfl _ _ (w.heap.size + 1) _ _ _ _ rfl (setRow_heap _ _ _ _ _ _ rz) Tryd.underlying27 rfl (unhide PS _ _)) rfl ⟨⟨_, rfl, (unhide F).1⟩, (unhide F).2⟩
    | true =>
      have HR := unhide HL2
      rw [if_pos rfl] at HR
      have HL3 := hide HR
      clear HR HL2 k0
      go_upto_region 7 with fail
      have q5 := al1 w4 (.cells #[.int .u32 (o : Int), .string (str n), .string (str a)] 81)
      have b5 : Below w4.heap.size w4 (w4.alloc (.cells #[.int .u32 (o : Int), .string (str n), .string (str a)] 81)) := (Below.refl _ _).alloc (Nat.le_refl _) _
      obtain ⟨w5, hw5⟩ : ∃ W, w4.alloc (.cells #[.int .u32 (o : Int), .string (str n), .string (str a)] 81) = W := ⟨_, rfl⟩
      rw [hw5] at q5 b5
      change Code.wp _ _ _ _ (w4.alloc (.cells #[.int .u32 (o : Int), .string (str n), .string (str a)] 81))
      rw [hw5]
      have S5 : Hid (Below X.heap.size X w5) := hide ((unhide S4).trans (b5.mono (unhide S4).size))
      obtain ⟨H, hH⟩ : ∃ H, w4.heap.size = H := ⟨_, rfl⟩
      rw [hH] at q5
      simp only [hH]
      have Q5 := hide q5
      have k0 := Below.at (unhide S5) (by have := unhide SX; omega) (unhide Q0)
      clear b5 hw5 hH S4
      go_wp2_with (first
        | (refine wpList_load_row rfl 27 (.tmp 5) rfl w.heap.size rfl 27 _ (0, 0) _ k0 Tryd.underlying27 rfl (unhide PS _ _) ?_)
        | (refine wpList_load_row rfl 81 (.tmp 14) rfl H rfl 81 _ (0, 0) _ q5 Tryd.underlying81 rfl hik ?_))
      refine (unhide CH _ (unhide S5)).mono ?_
      rintro e w6 ⟨rfl, b6⟩
      have S6 : Hid (Below X.heap.size X w6) := hide ((unhide S5).trans (b6.mono (unhide S5).size))
      have q6 := Below.at b6 (Array.getElem?_eq_some_iff.1 (unhide Q5)).1 (unhide Q5)
      clear b6 S5 q5 k0 CH Q5
      go_wp2_with fail
      refine (unhide CS _).mono ?_
      rintro e w7 ⟨rfl, rfl⟩
      have k0 := Below.at (unhide S6) (by have := unhide SX; omega) (unhide Q0)
      by_cases hlt : M + k < 18446744073709551616
      · have e1 : pAdd M k = (M + k, 0) := by unfold pAdd; rw [if_neg (by omega)]
        have HR := unhide HL3
        rw [if_pos hlt] at HR
        subst HR
        rw [e1]
        have CW4 := hide (unhide CW (M + k) _ (unhide S6))
        clear HL3 hlt e1 CW CT CS
        go_wp2_with (first
          | (refine wpList_load_row rfl 27 (.tmp 5) rfl w.heap.size rfl 27 _ (0, 0) _ k0 Tryd.underlying27 rfl (unhide PS _ _) ?_)
          | (refine wpList_load_row rfl 81 (.tmp 14) rfl H rfl 81 _ (0, 0) _ q6 Tryd.underlying81 rfl hik ?_))
        refine (unhide CW4).mono ?_
        rintro e wz ⟨⟨v', rfl, po⟩, bz⟩
        obtain ⟨u1, u2, rfl, one⟩ := po.parts
        have SZ := (unhide S6).trans (bz.mono (unhide S6).size)
        have rz := Below.at SZ (by have := unhide SX; omega) (unhide QR)
        have F := hide (out_set (C := w.heap.size) po (by have := (unhide S6).size; have := (unhide B0).size; omega) (by omega) rz ((unhide B0).trans (SZ.mono (unhide B0).size)) #[u1, u2])
        clear po bz SZ k0 q6 CW4
        go_wp2_with (refine wpList_store_row rfl 27 (.tmp 10) (.tmp 54) rfl (w.heap.size + 1) _ rfl rfl 27 _ rz (unhide PS _ _) rfl one ?_)
        exact bodyPost_ret (results_row_tmp rfl _ _ (w.heap.size + 1) _ _ _ _ rfl (setRow_heap _ _ _ _ _ _ rz) Tryd.underlying27 rfl (unhide PS _ _)) rfl ⟨⟨_, rfl, (unhide F).1⟩, (unhide F).2⟩
      · have e1 : pAdd M k = (0, 10) := by unfold pAdd; rw [if_pos (by omega)]
        have HR := unhide HL3
        rw [if_neg hlt] at HR
        subst HR
        rw [e1]
        clear HL3 hlt e1 CW CS q6
        go_wp2_with (refine wpList_load_row rfl 27 (.tmp 5) rfl w.heap.size rfl 27 _ (0, 0) _ k0 Tryd.underlying27 rfl (unhide PS _ _) ?_)
        refine (unhide CT _ (unhide S6)).mono ?_
        rintro e wz ⟨⟨v', rfl, po⟩, bz⟩
        obtain ⟨u1, u2, rfl, one⟩ := po.parts
        have SZ := (unhide S6).trans (bz.mono (unhide S6).size)
        have rz := Below.at SZ (by have := unhide SX; omega) (unhide QR)
        have F := hide (out_set (C := w.heap.size) po (by have := (unhide S6).size; have := (unhide B0).size; omega) (by omega) rz ((unhide B0).trans (SZ.mono (unhide B0).size)) #[u1, u2])
        clear po bz SZ k0
        go_wp2_with (refine wpList_store_row rfl 27 (.tmp 10) (.tmp 49) rfl (w.heap.size + 1) _ rfl rfl 27 _ rz (unhide PS _ _) rfl one ?_)
        exact bodyPost_ret (results_row_tmp rfl _ _ (w.heap.size + 1) _ _ _ _ rfl (setRow_heap _ _ _ _ _ _ rz) Tryd.underlying27 rfl (unhide PS _ _)) rfl ⟨⟨_, rfl, (unhide F).1⟩, (unhide F).2⟩
end Go.Proofs.YtjfnaedcdmmigaaDoor

namespace Go.Proofs.YtjfnaedcdmmigaaDoor
open Go Go.RowKit
set_option linter.unusedSimpArgs false
set_option linter.unusedVariables false

theorem pSub_fst (a b : Nat) : (pSub a b).1 = a - b := by unfold pSub; split <;> simp <;> omega
theorem Tkn.ok.u {t : Tkn} (h : t.ok) : t.lk < 18446744073709551616 ∧ t.ul < 18446744073709551616 ∧ t.mi < 18446744073709551616 ∧ t.bu < 18446744073709551616 := ⟨h.2.2.2.1, h.2.2.2.2.1, h.2.2.2.2.2.1, h.2.2.2.2.2.2⟩
set_option maxRecDepth 100000 in
theorem out_calls (t : Tkn) (ht : t.ok) (w : World) :
    Calls Tryd.prog 16 #[.agg (tokC t).toArray] w fun e w' => e = .returned (.tuple #[.int .u64 ((t.mi - t.bu : Nat) : Int), .int .u64 ((t.lk - t.ul : Nat) : Int)]) ∧ Below w.heap.size w w' := by
  obtain ⟨h1, h2, h3, h4⟩ := ht.u
  have C1 := hide fun W => amtSub_calls t.mi t.bu h3 h4 W
  have C2 := hide fun W => amtSub_calls t.lk t.ul h1 h2 W
  rw [pSub_fst] at C1 C2
  have b0 : Below w.heap.size w (w.alloc (.cells (tokC t).toArray 38)) := (Below.refl _ _).alloc (Nat.le_refl _) _
  generalize (pSub t.mi t.bu).2 = E1 at *
  generalize (pSub t.lk t.ul).2 = E2 at *
  obtain ⟨M1, hM1⟩ : ∃ m, t.mi - t.bu = m := ⟨_, rfl⟩
  obtain ⟨M2, hM2⟩ : ∃ m, t.lk - t.ul = m := ⟨_, rfl⟩
  rw [hM1] at C1
  rw [hM2] at C2
  rw [hM1, hM2]
  clear hM1 hM2 h1 h2 h3 h4 ht
  unfold tokC at *
  go_enter Tryd.func16, Tryd.ntmps16
  go_wp2_with fail
  refine (unhide C1 _).mono ?_
  rintro e w1 ⟨rfl, rfl⟩
  go_wp2_with fail
  refine (unhide C2 _).mono ?_
  rintro e w2 ⟨rfl, rfl⟩
  go_wp2
  go_ret2
  exact ⟨rfl, b0⟩
/-- A token is another one, and somebody holds more of it. -/
def pGB (ts : List Tkn) (hs : List Hol) (t : Tkn) (a : List UInt8) (k : Nat) : List Tkn × List Hol × Nat :=
  if (pGrant ts hs t.o t.n a k).2 = 0 then (pSetT ts t, (pGrant ts hs t.o t.n a k).1, 0) else (ts, (pGrant ts hs t.o t.n a k).1, (pGrant ts hs t.o t.n a k).2)
theorem pWith_len (hs : List Hol) (o : Nat) (n a : List UInt8) (k : Nat) : (pWith hs o n a k).length ≤ hs.length + 1 := by
  unfold pWith
  split
  · split
    · rw [List.length_modify]; omega
    · have := List.length_eraseIdx_le hs (hs.findIdx (isH o n a)); omega
  · split
    · rw [List.length_insertIdx]; split <;> omega
    · omega
theorem pGrant_len (ts : List Tkn) (hs : List Hol) (o : Nat) (n a : List UInt8) (k : Nat) : (pGrant ts hs o n a k).1.length ≤ hs.length + 1 := by
  unfold pGrant
  have := pWith_len hs o n a (pHe hs o n a + k)
  split
  · split
    · split
      · exact this
      · simp
    · simp
  · simp
theorem kn_idx {ts : List Tkn} {o : Nat} {n : List UInt8} (h : (pKn ts o n).isSome = true) : ts.findIdx (isT o n) < ts.length := by
  obtain ⟨t, ht⟩ := Option.isSome_iff_exists.1 h
  exact List.findIdx_lt_length_of_exists ⟨t, List.mem_of_find?_eq_some ht, List.find?_some ht⟩
theorem kn_key {ts : List Tkn} {o : Nat} {n : List UInt8} {t : Tkn} (h : pKn ts o n = some t) : t.o = o ∧ t.n = n ∧ t ∈ ts := by
  have := List.find?_some h
  unfold isT at this
  exact ⟨(of_decide_eq_true this).1, (of_decide_eq_true this).2, List.mem_of_find?_eq_some h⟩
set_option maxHeartbeats 4000000 in
set_option maxRecDepth 1000000 in
theorem gb_calls (ts : List Tkn) (hs : List Hol) (hn1 : ts.length ≤ 1000) (hn2 : hs.length ≤ 999) (hok : ∀ h ∈ hs, h.ok) (v : Value) (t : Tkn) (a : List UInt8) (hnl : t.n.length ≤ 1000) (hal : a.length ≤ 1000) (hf : (pKn ts t.o t.n).isSome = true) (k : Nat) (hk : k < 18446744073709551616) (w : World) (hU : UTabs w) (hP : PM w v ts hs) :
    Calls Tryd.prog 48 #[v, .agg (tokC t).toArray, .string (str a), .int .u64 (k : Int)] w fun e w' => (∃ v', e = .returned (.tuple #[v', .int .i64 ((pGB ts hs t a k).2.2 : Int)]) ∧ PO w' w.heap.size v' (pGB ts hs t a k).1 (pGB ts hs t a k).2.1) ∧ Below w.heap.size w w' := by
  obtain ⟨p1, c1, p2, c2, rfl, hT, hH⟩ := hP
  obtain ⟨q0, q1, q2⟩ := al3 w (.cells #[.slice p1 ts.length c1, .slice p2 hs.length c2] 27) (.cells (tokC t).toArray 38) (.cells zPur 27)
  have b0 := bel3 w (.cells #[.slice p1 ts.length c1, .slice p2 hs.length c2] 27) (.cells (tokC t).toArray 38) (.cells zPur 27)
  have sX : (((w.alloc (.cells #[.slice p1 ts.length c1, .slice p2 hs.length c2] 27)).alloc (.cells (tokC t).toArray 38)).alloc (.cells zPur 27)).heap.size = w.heap.size + 1 + 1 + 1 := by simp
  obtain ⟨X, hX⟩ : ∃ X, ((w.alloc (.cells #[.slice p1 ts.length c1, .slice p2 hs.length c2] 27)).alloc (.cells (tokC t).toArray 38)).alloc (.cells zPur 27) = X := ⟨_, rfl⟩
  have HX := hide hX
  rw [hX] at q0 q1 q2 b0 sX
  have PX : PM X (.agg #[.slice p1 ts.length c1, .slice p2 hs.length c2]) ts hs := ⟨p1, c1, p2, c2, rfl, hT.below b0, hH.below b0⟩
  have CG := hide (grant_calls ts hs hn1 (by omega) hok _ t.o t.n a hnl hal k hk X (hU.below' b0) PX)
  have hgl := pGrant_len ts hs t.o t.n a k
  have hfi := kn_idx hf
  have CW := hide fun v' W (hP : PM W v' ts (pGrant ts hs t.o t.n a k).1) => withToken_calls ts (pGrant ts hs t.o t.n a k).1 hn1 (by omega) v' t hfi W hP
  have HL : Hid (pGB ts hs t a k = if (pGrant ts hs t.o t.n a k).2 = 0 then (pSetT ts t, (pGrant ts hs t.o t.n a k).1, 0) else (ts, (pGrant ts hs t.o t.n a k).1, (pGrant ts hs t.o t.n a k).2)) := hide rfl
  obtain ⟨R, hR⟩ : ∃ R, pGB ts hs t a k = R := ⟨_, rfl⟩
  rw [hR] at HL
  rw [hR]
  have kt0 : X.cell? ⟨w.heap.size + 1, 0, none⟩ = some (.int .u32 (t.o : Int)) := cell_of_row _ _ _ _ _ _ q1
  have kt1 : X.cell? ⟨w.heap.size + 1, 1, none⟩ = some (.string (str t.n)) := cell_of_row _ _ _ _ _ _ q1
  have hti := tokSz t
  generalize pGrant ts hs t.o t.n a k = GR at *
  generalize pSetT ts t = ST at *
  have QR := hide q2
  have Q1 := hide q1
  have B0 := hide b0
  have SX := hide sX
  have PS := hide fun v1 v2 => purSz v1 v2
  unfold zPur at HX
  obtain ⟨C, hC⟩ : ∃ C, (tokC t).toArray = C := ⟨_, rfl⟩
  rw [hC] at Q1 HX hti CW
  rw [hC]
  generalize t.n = tn at *
  generalize t.o = to' at *
  clear hT hH hX PX q1 q2 b0 sX hn1 hn2 hok hnl hal hU hR hgl hfi hf hC
  go_enter Tryd.func48, Tryd.ntmps48
  go_upto_region 1 with fail
  change Code.wp _ _ _ _ (((w.alloc (.cells #[.slice p1 ts.length c1, .slice p2 hs.length c2] 27)).alloc (.cells C 38)).alloc (.cells #[.slice none 0 0, .slice none 0 0] 27))
  rw [unhide HX]
  go_wp2_with (refine wpList_load_row rfl 27 (.tmp 4) rfl w.heap.size rfl 27 _ (0, 0) _ q0 Tryd.underlying27 rfl (unhide PS _ _) ?_)
  refine (unhide CG).mono ?_
  rintro e w2 ⟨⟨v', rfl, po⟩, b2⟩
  obtain ⟨x1, x2, rfl, one⟩ := po.parts
  have S2 : Hid (Below X.heap.size X w2) := hide b2
  have PO2 := hide po
  clear b2 po CG q0 kt0 kt1
  go_upto_region 2 with (refine wpList_store_newV rfl 27 (.tmp 10) (.tmp 21) rfl w2 #[.slice none 0 0, .slice none 0 0] _ #[x1, x2] rfl rfl (unhide PS _ _) rfl one ?_; intro w3 q3 b3 z3)
  have S3 : Hid (Below X.heap.size X w3) := hide ((unhide S2).trans (b3.mono (unhide S2).size))
  have PO3 := hide ((unhide PO2).below b3)
  obtain ⟨G, hG⟩ : ∃ G, w2.heap.size = G := ⟨_, rfl⟩
  rw [hG] at q3
  simp only [hG]
  clear b3 z3 S2 hG PO2
  by_cases h0 : GR.2 = 0
  · have HR := unhide HL
    rw [if_pos h0] at HR
    subst HR
    have d0 : ((GR.2 : Nat) : Int) = 0 := by omega
    rw [d0]
    have k1 := Below.at (unhide S3) (by have := unhide SX; omega) (unhide Q1)
    have CW3 := hide (unhide CW _ _ (unhide PO3).mem)
    clear HL d0 h0 CW PO3
    go_wp2_with (first
      | (refine wpList_load_row rfl 27 (.tmp 10) rfl G rfl 27 _ (0, 0) _ q3 Tryd.underlying27 rfl (unhide PS _ _) ?_)
      | (refine wpList_load_row rfl 38 (.tmp 5) rfl (w.heap.size + 1) rfl 38 _ (0, 0) _ k1 Tryd.underlying38 rfl hti ?_))
    refine (unhide CW3).mono ?_
    rintro e wz ⟨⟨v', rfl, po⟩, bz⟩
    obtain ⟨u1, u2, rfl, one2⟩ := po.parts
    have SZ := (unhide S3).trans (bz.mono (unhide S3).size)
    have rz := Below.at SZ (by have := unhide SX; omega) (unhide QR)
    have F := hide (out_set (C := w.heap.size) po (by have := (unhide S3).size; have := (unhide B0).size; omega) (by omega) rz ((unhide B0).trans (SZ.mono (unhide B0).size)) #[u1, u2])
    clear po bz SZ k1 CW3 q3 one
    go_wp2_with (refine wpList_store_row rfl 27 (.tmp 8) (.tmp 29) rfl (w.heap.size + 1 + 1) _ rfl rfl 27 _ rz (unhide PS _ _) rfl one2 ?_)
    exact bodyPost_ret (results_row_tmp rfl _ _ (w.heap.size + 1 + 1) _ _ _ _ rfl (setRow_heap _ _ _ _ _ _ rz) Tryd.underlying27 rfl (unhide PS _ _)) rfl ⟨⟨_, rfl, (unhide F).1⟩, (unhide F).2⟩
  · have HR := unhide HL
    rw [if_neg h0] at HR
    subst HR
    have d0 : ¬ ((GR.2 : Nat) : Int) = 0 := by omega
    have rz := Below.at (unhide S3) (by have := unhide SX; omega) (unhide QR)
    have F := hide (out_set (C := w.heap.size) (unhide PO3) (by have := (unhide B0).size; omega) (by omega) rz ((unhide B0).trans ((unhide S3).mono (unhide B0).size)) #[x1, x2])
    clear HL h0 CW PO3
    go_wp2_with (first
      | (refine wpList_load_row rfl 27 (.tmp 10) rfl G rfl 27 _ (0, 0) _ q3 Tryd.underlying27 rfl (unhide PS _ _) ?_)
      | (refine wpList_store_row rfl 27 (.tmp 8) (.tmp 25) rfl (w.heap.size + 1 + 1) _ rfl rfl 27 _ rz (unhide PS _ _) rfl one ?_))
    exact bodyPost_ret (results_row_tmp rfl _ _ (w.heap.size + 1 + 1) _ _ _ _ rfl (setRow_heap _ _ _ _ _ _ rz) Tryd.underlying27 rfl (unhide PS _ _)) rfl ⟨⟨_, rfl, (unhide F).1⟩, (unhide F).2⟩
end Go.Proofs.YtjfnaedcdmmigaaDoor
