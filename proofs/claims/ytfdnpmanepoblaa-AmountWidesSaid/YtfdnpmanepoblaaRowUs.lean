/-
  LISTS OF NUMBERS AS ARGUMENTS: what a row hands the walks.
-/
import Derived.Test.YtfdnpmanepoblaaRowWide
import Derived.Test.YtfdnpmanepoblaaAmtF
import Derived.Deep.Slices
import Derived.Deep.DeepHandedRow
namespace Go.Proofs.Ytfdnpmanepoblaa
open Go.ChangeShapes Go.WideShapes Go.ChangeAt Go.RowKit
set_option linter.unusedVariables false

theorem open_us {H : Type} {enc : TypeId × Value → H} {W : World} {base : Nat} {sp : Nat → Bool} {held : Bool} {v : Value} {d : DataW H} {ps : List MemPlace} (hd : DataW.Trod enc Try.prog W base sp held 22 v d ps) (hv : ∃ p n cap, v = .slice p n cap) :
    ∃ p xs cap, v = .slice p xs.length cap ∧ (∀ x ∈ xs, x < 18446744073709551616) ∧ USAt W p xs := by
  obtain ⟨p, n0, cap0, rfl⟩ := hv
  obtain ⟨fuel, h⟩ := hd
  have hc : Try.prog.cellsOf 23 = 1 := by kernel_rfl
  rcases Deep.open_slice Try.underlying22 h with ⟨e, _⟩ | ⟨a, len, cap, m, n, D, Pl, e, hb, hlc, hcm, hm, hx, hel⟩
  · simp [Value.cells] at e
    obtain ⟨rfl, rfl, rfl⟩ := e
    exact ⟨none, [], 0, rfl, by simp, .inl rfl⟩
  · simp [Value.cells] at e
    obtain ⟨rfl, rfl, rfl⟩ := e
    have hlm : n0 ≤ m := by rw [hm]; split <;> omega
    rw [hc] at hel
    have each : ∀ i, i < n0 → ∃ x : Nat, x < 18446744073709551616 ∧ W.cell? (a.add i) = some (.int .u64 (x : Int)) := fun i hi => by
      obtain ⟨cs', h1, h2⟩ := hel i (by omega)
      obtain ⟨h3, h4, h5⟩ := World.cells?_some h1
      obtain ⟨z, hz, _, hw⟩ := DataW.trod_int Try.underlying23 h2
      simp [Lit.wf, IntKind.min, IntKind.max, IntKind.signed, IntKind.bits] at hw
      refine ⟨z.toNat, by omega, ?_⟩
      have h7 := h5 0 (by omega)
      rw [Deep.add_add] at h7
      rw [show i * 1 + 0 = i by omega] at h7
      rw [h7, hz]
      simp
      omega
    let F : Nat → Nat := fun i => if h : i < n0 then Classical.choose (each i h) else 0
    have hF : ∀ i (hi : i < n0), F i < 18446744073709551616 ∧ W.cell? (a.add i) = some (.int .u64 (F i : Int)) := fun i hi => by
      have : F i = Classical.choose (each i hi) := by show (if h : i < n0 then _ else _) = _; rw [dif_pos hi]
      rw [this]; exact Classical.choose_spec (each i hi)
    refine ⟨some a, (List.range n0).map F, cap0, by simp, fun x hx => ?_, ?_⟩
    · obtain ⟨i, hi, rfl⟩ := List.mem_map.1 hx
      exact (hF i (List.mem_range.1 hi)).1
    · rcases Nat.eq_zero_or_pos n0 with h0 | h0
      · subst h0; exact .inl rfl
      · obtain ⟨b, off, spot⟩ := a
        have hc0 := (hF 0 h0).2
        have hspot : spot = none := by simpa [Addr.add] using World.cell?_spot hc0
        subst hspot
        refine .inr ⟨b, off, rfl, ?_, fun j hj => ?_⟩
        · have := block_lt_of_cell hc0; simpa [Addr.add] using this
        · have hj' : j < n0 := by simpa using hj
          have e1 : ((List.range n0).map F).getD j 0 = F j := by simp [hj']
          have e2 : (⟨b, off, none⟩ : Addr).add j = ⟨b, off + j, none⟩ := by unfold Addr.add; split <;> simp_all
          rw [e1, ← e2]; exact (hF j hj').2
end Go.Proofs.Ytfdnpmanepoblaa
