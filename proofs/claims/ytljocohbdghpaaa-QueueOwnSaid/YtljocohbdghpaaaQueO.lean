/-
  append OF SOME NUMBERS TO A SLICE OF ONE'S OWN, AND WHERE ITS ROW STANDS THEN.
-/
import Derived.Test.YtljocohbdghpaaaLawQueueDoes
namespace Go.Proofs.Ytljocohbdghpaaa
open Go Go.RowKit
set_option linter.unusedSimpArgs false
set_option linter.unusedVariables false

theorem wpList_append_two {P : Program} {ops : Array Oper} {rest : List Oper} {o : Oper} {a : Act} {Q : Exit → Act → World → Prop} (w : World) (hgd : o.guard = none) (t e : TypeId) (sx x : Operand)
    (ho : o.op = .call { callee := .builtin .append, args := #[sx, x], argTypes := #[t, t] }) (hu : P.underlying t = some (.slice e)) {by_ : Nat} (hi : (P.info? e).map (fun i => (i.size, i.bytes, i.zero.map (·.cells.size))) = some (1, by_, some 1)) (hby : by_ ≤ 16)
    (base : Nat) (v : Value) (n : Nat) (xs : List Value) (hv : a.eval sx = v) (hown : w.ownsRow base e 1 v n xs) (hb : base ≤ w.heap.size) (B : List Value) (m : Nat) (hm : B.length = m) (hm0 : 0 < m) (hO : ∀ u ∈ B, One u) (ad : Addr) (c : Nat) (hB : VL w (some ad) B)
    (hx : a.eval x = .slice (some ad) m c) (hlen : n + m ≤ 1048576)
    (h : ∀ g cap cur w', w'.heap[g]? = some (.cells cur e (0, 0)) → base ≤ g → n + m ≤ cap → cur.size = cap → cur.toList.take (n + m) = xs ++ B → w.grownBy w' v.ownBlock → (v.ownBlock = some g ∨ w.heap.size ≤ g) → wpList P ops Q rest (a.put o.dst (.slice (some ⟨g, 0, none⟩) (n + m) cap)) w') : wpList P ops Q (o :: rest) a w := by
  obtain ⟨i, z, hie, hz, e1, e2, e3⟩ := rowInfoV hi
  have hb2 : (n + m) * by_ ≤ 140737488355328 := Nat.le_trans (Nat.mul_le_mul hlen hby) (by decide)
  refine wpList_plain hgd fun K hK => ?_
  obtain ⟨v', w', hr, h2, h3, h4⟩ := run_append_own (P := P) w base t o.type e i z 1 by_ hu hie hz e1 e2 e3 (by omega) v n xs hown ad m c B (by omega) hB.cells (fun u hu => (hO u hu).one) (by unfold maxLen; omega) hb2 hb
  have hsm : n + m ≤ 1048576 := hlen
  have key : ∃ g cap cur, v' = .slice (some ⟨g, 0, none⟩) (n + m) cap ∧ w'.heap[g]? = some (.cells cur e (0, 0)) ∧ base ≤ g ∧ n + m ≤ cap ∧ cur.size = cap ∧ cur.toList.take (n + m) = xs ++ B ∧ (v.ownBlock = some g ∨ w.heap.size ≤ g) := by
    rcases h2.2 with ⟨rfl, h0⟩ | ⟨g, cap, cur, rfl, hbg, hg, hnc, hcm, hcs, ht⟩
    · omega
    · refine ⟨g, cap, cur, rfl, hg, hbg, hnc, by simpa using hcs, by simpa using ht, ?_⟩
      rcases hown.2 with ⟨rfl, rfl⟩ | ⟨g', cap', cur', rfl, hbg', hg', hnc', hcm', hcs', ht'⟩
      · have hr2 := run_append_nil (P := P) w t o.type e i z hu hie hz ad m c B (by rw [e1]; omega) hB.cells hm0 (by omega) (by rw [e2]; simp only [Nat.zero_add] at hb2; omega)
        rw [hr] at hr2
        simp only [Result.ok.injEq, Value.slice.injEq, Option.some.injEq, Addr.mk.injEq] at hr2
        right; omega
      · by_cases hroom : n + m ≤ cap'
        · have hfit : n * i.size + B.length ≤ cur'.size := by rw [e1, hcs', hm]; omega
          have hr2 := run_append_room (P := P) w t o.type e i hu hie g' n cap' cur' hg' ad m c B (by rw [e1]; omega) hB.cells (fun u hu => (hO u hu).one) hroom hfit
          rw [hr] at hr2
          simp only [Result.ok.injEq, Value.slice.injEq, Option.some.injEq, Addr.mk.injEq] at hr2
          left; simp only [Value.ownBlock]; rw [hr2.1.1.1]
        · have holds : ∀ j u, xs[j]? = some u → w.cell? ((⟨g', 0, none⟩ : Addr).add j) = some u := hown.cells (g := g') rfl
          have hr2 := run_append_grow (P := P) w t o.type e i z hu hie hz ⟨g', 0, none⟩ n cap' xs (by rw [e1]; exact hown.1) holds ad m c B (by rw [e1]; omega) hB.cells (by omega) (by omega) (by rw [e2]; exact growslice_fits (by omega) hb2)
          rw [hr] at hr2
          simp only [Result.ok.injEq, Value.slice.injEq, Option.some.injEq, Addr.mk.injEq] at hr2
          right; omega
  obtain ⟨g, cap, cur, rfl, k1, k2, k3, k4, k5, k6⟩ := key
  unfold Oper.wp execOp
  simp only [ho, resolve, invoke, builtin, Sem.run_bind, Sem.run_pure, Result.andThen_ok, List.map_toArray, List.map_cons, List.map_nil, hv, hx, hr]
  exact hK _ _ (h g cap cur w' k1 k2 k3 k4 k5 h3 k6)
end Go.Proofs.Ytljocohbdghpaaa
