/-
  LISTS OF ONE-CELL VALUES IN MEMORY.
-/
import Derived.Test.YtljocohbdghpaaaCellsB
import Derived.Test.YtljocohbdghpaaaKitEq
import Derived.Laws.AppendOwn
import Derived.Laws.OwnMore
namespace Go.Proofs.Ytljocohbdghpaaa
open Go Go.RowKit
set_option linter.unusedSimpArgs false
set_option linter.unusedVariables false

def One (X : Value) : Prop := (∃ i : Int, X = .int .i64 i) ∨ ∃ t, X = .string t
/-- A list of values, a cell each, in memory. -/
def VL (w : World) (p : Option Addr) (xs : List Value) : Prop :=
  xs ≠ [] → ∃ b off, p = some ⟨b, off, none⟩ ∧ b < w.heap.size ∧ ∀ i, i < xs.length → w.cell? ⟨b, off + i, none⟩ = xs[i]?
theorem VL.below {w w' : World} {B : Nat} {p : Option Addr} {xs : List Value} (h : VL w p xs) (hb : Below B w w') (hB : w.heap.size ≤ B) : VL w' p xs := by
  intro hn
  obtain ⟨b, off, rfl, hl, hc⟩ := h hn
  exact ⟨b, off, rfl, Nat.lt_of_lt_of_le hl hb.size, fun i hi => by rw [hb.cell (p := ⟨b, off + i, none⟩) (Nat.lt_of_lt_of_le hl hB)]; exact hc i hi⟩
theorem VL.drop {w : World} {b off : Nat} {xs : List Value} (h : VL w (some ⟨b, off, none⟩) xs) (k : Nat) : VL w (some ⟨b, off + k, none⟩) (xs.drop k) := by
  intro hn
  obtain ⟨b', off', e, hl, hc⟩ := h (by intro h0; rw [h0] at hn; simp at hn)
  cases e
  refine ⟨b, off + k, rfl, hl, fun i hi => ?_⟩
  rw [List.length_drop] at hi
  rw [Nat.add_assoc, hc (k + i) (by omega), List.getElem?_drop]
theorem VL.mapAdd {w : World} {p : Option Addr} {xs : List Value} (h : VL w p xs) (k : Nat) : VL w (p.map (fun x => x.add k)) (xs.drop k) := by
  cases p with
  | none =>
    intro hn
    obtain ⟨_, _, e, _⟩ := h (by intro h0; rw [h0] at hn; simp at hn)
    cases e
  | some a =>
    intro hn
    obtain ⟨b', off', e, _⟩ := h (by intro h0; rw [h0] at hn; simp at hn)
    cases e
    have h2 := h.drop k hn
    rw [Option.map_some, show (⟨b', off', none⟩ : Addr).add k = ⟨b', off' + k, none⟩ by unfold Addr.add; split <;> simp_all]
    exact h2
theorem VL.take {w : World} {p : Option Addr} {xs : List Value} (h : VL w p xs) (k : Nat) : VL w p (xs.take k) := by
  intro hn
  obtain ⟨b', off', e, hl, hc⟩ := h (by intro h0; rw [h0] at hn; simp at hn)
  refine ⟨b', off', e, hl, fun i hi => ?_⟩
  rw [List.length_take] at hi
  rw [hc i (by omega), List.getElem?_take, if_pos (by omega)]
theorem VL_of_owns {base : Nat} {w : World} {t : TypeId} {v : Value} {n : Nat} {xs : List Value} (hn : xs.length = n) (h : w.ownsRow base t 1 v n xs) : ∃ p c, v = .slice p n c ∧ VL w p xs := by
  rcases h.2 with ⟨rfl, h0⟩ | ⟨g, cap, cur, rfl, _, hg, _, _, _, ht⟩
  · exact ⟨none, 0, by rw [h0], fun hx => absurd (List.length_eq_zero_iff.1 (hn.trans h0)) hx⟩
  · refine ⟨_, cap, rfl, fun _ => ⟨g, 0, rfl, (Array.getElem?_eq_some_iff.1 hg).1, fun i hi => ?_⟩⟩
    rw [Nat.zero_add, cell_of_row _ _ _ _ _ _ hg]
    have h1 : (cur.toList.take (n * 1))[i]? = xs[i]? := by rw [ht]
    rw [List.getElem?_take, if_pos (by omega)] at h1
    simpa using h1
theorem owns_cap {base : Nat} {w : World} {t : TypeId} {p : Option Addr} {n c s m : Nat} {xs : List Value} (h : w.ownsRow base t s (.slice p n c) m xs) : n ≤ c ∧ (p = none → c = 0) := by
  rcases h.2 with ⟨e, _⟩ | ⟨g, cap, cur, e, _, _, hc, _⟩
  · simp only [Value.slice.injEq] at e
    obtain ⟨rfl, rfl, rfl⟩ := e
    exact ⟨Nat.le_refl _, fun _ => rfl⟩
  · simp only [Value.slice.injEq] at e
    obtain ⟨rfl, rfl, rfl⟩ := e
    exact ⟨hc, fun h => by cases h⟩
theorem vowns_below {B : Nat} {w w' : World} {t : TypeId} {s n : Nat} {v : Value} {xs : List Value} (h : w.ownsRow B t s v n xs) (hb : Below w.heap.size w w') : w'.ownsRow B t s v n xs := by
  obtain ⟨h1, h2⟩ := h
  refine ⟨h1, ?_⟩
  rcases h2 with h2 | ⟨g, cap, cur, rfl, hB, hg, hc, hm, hs, ht⟩
  · exact .inl h2
  · exact .inr ⟨g, cap, cur, rfl, hB, Below.at hb (Array.getElem?_eq_some_iff.1 hg).1 hg, hc, hm, hs, ht⟩
theorem vowns_base {B C : Nat} {w : World} {t : TypeId} {s n : Nat} {v : Value} {xs : List Value} (h : w.ownsRow B t s v n xs) (hC : C ≤ B) : w.ownsRow C t s v n xs := by
  obtain ⟨h1, h2⟩ := h
  refine ⟨h1, ?_⟩
  rcases h2 with h2 | ⟨g, cap, cur, rfl, hB, hg, hc, hm, hs, ht⟩
  · exact .inl h2
  · exact .inr ⟨g, cap, cur, rfl, by omega, hg, hc, hm, hs, ht⟩
theorem rowInfoV {P : Program} {e : TypeId} {s b : Nat} (hi : (P.info? e).map (fun i => (i.size, i.bytes, i.zero.map (·.cells.size))) = some (s, b, some s)) : ∃ i z, P.info? e = some i ∧ i.zero = some z ∧ i.size = s ∧ i.bytes = b ∧ z.cells.size = s := by
  cases hq : P.info? e with
  | none => rw [hq] at hi; cases hi
  | some i =>
    rw [hq] at hi
    simp only [Option.map_some, Option.some.injEq, Prod.mk.injEq] at hi
    obtain ⟨h1, h2, h3⟩ := hi
    cases hz : i.zero with
    | none => rw [hz] at h3; cases h3
    | some z => rw [hz] at h3; simp only [Option.map_some, Option.some.injEq] at h3; exact ⟨i, z, rfl, hz, h1, h2, h3⟩
theorem VL.cells {w : World} {ad : Addr} {xs : List Value} (h : VL w (some ad) xs) (j : Nat) (u : Value) (hu : xs[j]? = some u) : w.cell? (ad.add j) = some u := by
  have hj := (List.getElem?_eq_some_iff.1 hu).1
  obtain ⟨b, off, e, _, hc⟩ := h (by intro h0; rw [h0] at hj; simp at hj)
  cases e
  rw [show (⟨b, off, none⟩ : Addr).add j = ⟨b, off + j, none⟩ by unfold Addr.add; split <;> simp_all, hc j hj, hu]
theorem One.one {u : Value} (h : One u) : u.oneCell' = true := by rcases h with ⟨i, rfl⟩ | ⟨t, rfl⟩ <;> rfl
theorem wpList_append_v {P : Program} {ops : Array Oper} {rest : List Oper} {o : Oper} {a : Act} {Q : Exit → Act → World → Prop} (w : World) (hgd : o.guard = none) (t e : TypeId) (sx x : Operand)
    (ho : o.op = .call { callee := .builtin .append, args := #[sx, x], argTypes := #[t, t] }) (hu : P.underlying t = some (.slice e)) {by_ : Nat} (hi : (P.info? e).map (fun i => (i.size, i.bytes, i.zero.map (·.cells.size))) = some (1, by_, some 1)) (hby : by_ ≤ 16)
    (base : Nat) (v : Value) (n : Nat) (xs : List Value) (hv : a.eval sx = v) (hown : w.ownsRow base e 1 v n xs) (hb : base ≤ w.heap.size) (B : List Value) (m : Nat) (hm : B.length = m) (hO : ∀ u ∈ B, One u) (ad : Addr) (c : Nat) (hB : VL w (some ad) B)
    (hx : a.eval x = .slice (some ad) m c) (hlen : n + m ≤ 1048576)
    (h : ∀ v' w', w'.ownsRow base e 1 v' (n + m) (xs ++ B) → Below base w w' → wpList P ops Q rest (a.put o.dst v') w') : wpList P ops Q (o :: rest) a w := by
  obtain ⟨i, z, hie, hz, e1, e2, e3⟩ := rowInfoV hi
  refine wpList_append_own _ hgd sx x t ho base e i z 1 by_ hu hie hz e1 e2 e3 (by omega) v n xs hv hown ad m c B hx (by omega) hB.cells (fun u hu => (hO u hu).one) (by unfold maxLen; omega) (Nat.le_trans (Nat.mul_le_mul hlen hby) (by decide)) hb ?_
  intro v' w' ho' hg _
  refine h v' w' ho' ⟨hg.os, hg.tape, hg.output, hg.size, fun k hk => hg.block k (by omega) ?_⟩
  intro hc'
  have := (hown.lt k hc'.symm).1
  omega
theorem toList_eqQ (l m : List UInt8) : ((str l).toList = (str m).toList) = (l = m) := by rw [ByteArray.toList_eq, ByteArray.toList_eq, str_toList, str_toList]
theorem VL_one (w : World) (X : Value) (t : TypeId) : VL (w.alloc (.cells #[X] t)) (some ⟨w.heap.size, 0, none⟩) [X] := by
  intro _
  refine ⟨w.heap.size, 0, rfl, by simp, fun i hi => ?_⟩
  have h0 : i = 0 := by simpa using hi
  subst h0
  rw [show (⟨w.heap.size, 0 + 0, none⟩ : Addr) = ⟨w.heap.size, 0, none⟩ by rfl, cell_of_row _ _ 0 _ _ _ (al1 w (.cells #[X] t))]
  rfl
def ixO {α : Type} [DecidableEq α] (x : α) (l : List α) : Nat := l.idxOf x
theorem ixO_lt {α : Type} [DecidableEq α] {x : α} {l : List α} (h : x ∈ l) : ixO x l < l.length := List.idxOf_lt_length_of_mem h
/-- The last ones, at most m. -/
def pTrim {α : Type} (l : List α) (m : Int) : List α := l.drop (l.length - m.toNat)
/-- What Push answers. -/
def pPushL {α : Type} (xs : List α) (x : α) (m : Int) : List α := if m ≤ (xs.length : Int) then xs else xs ++ [x]
def pPushE (n : Nat) (m : Int) : Int := if m ≤ (n : Int) then 6 else 0
/-- What stands behind the first x; all, where there is none. -/
def pThr {α : Type} [DecidableEq α] (x : α) (l : List α) : List α := if x ∈ l then l.drop (ixO x l + 1) else l
/-- The place of the first x; -1. -/
noncomputable def pAt {α : Type} [DecidableEq α] (x : α) (l : List α) : Int := if x ∈ l then (ixO x l : Int) else -1
theorem pAt_hit {α : Type} [DecidableEq α] (x : α) : ∀ (l : List α) (j : Nat), l[j]? = some x → (∀ i, i < j → l[i]? ≠ some x) → pAt x l = (j : Int)
  | [], j, h, _ => by simp at h
  | y :: l, 0, h, _ => by simp at h; subst h; simp [pAt, ixO]
  | y :: l, j + 1, h, hn => by
    have h0 : y ≠ x := fun e => hn 0 (by omega) (by simp [e])
    have h1 := pAt_hit x l j (by simpa using h) (fun i hi => by have := hn (i + 1) (by omega); simpa using this)
    have hm : x ∈ l := by
      have : l[j]? = some x := by simpa using h
      exact List.mem_of_getElem? this
    unfold pAt ixO at h1 ⊢
    rw [if_pos hm] at h1
    rw [if_pos (by simp [hm]), List.idxOf_cons, (by simpa using h0 : (y == x) = false)]
    simp; omega
theorem pAt_miss {α : Type} [DecidableEq α] (x : α) (l : List α) (hn : ∀ i, i < l.length → l[i]? ≠ some x) : pAt x l = -1 := by
  unfold pAt
  rw [if_neg]
  intro hm
  obtain ⟨i, hi, he⟩ := List.getElem_of_mem hm
  exact hn i hi (by rw [List.getElem?_eq_getElem hi, he])
theorem pAt_ge {α : Type} [DecidableEq α] (x : α) (l : List α) : -1 ≤ pAt x l ∧ (pAt x l < l.length ∨ l = []) := by
  unfold pAt
  split
  · next h => have := ixO_lt h; omega
  · next h => refine ⟨by omega, ?_⟩; cases l with
    | nil => right; rfl
    | cons => left; simp; omega
theorem pAt_neg {α : Type} [DecidableEq α] (x : α) (l : List α) : pAt x l < 0 ↔ x ∉ l := by
  unfold pAt
  split <;> simp_all <;> omega
end Go.Proofs.Ytljocohbdghpaaa
