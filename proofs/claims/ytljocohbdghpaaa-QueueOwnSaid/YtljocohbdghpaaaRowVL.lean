/-
  LISTS OF INTEGERS AND OF TEXTS AS ARGUMENTS: what a row hands the walks.
-/
import Derived.Test.YtljocohbdghpaaaQueA
import Derived.Test.YtljocohbdghpaaaQueB
import Derived.ProofKit
import Derived.OpenShut
import Derived.WideKeyArr2
import Derived.ChangeMaps5
import Derived.Deep.Slices
import Derived.Deep.DeepHandedRow
namespace Go.Proofs.Ytljocohbdghpaaa
open Go.ChangeShapes Go.WideShapes Go.ChangeAt Go.RowKit
set_option linter.unusedVariables false

theorem open_ints {H : Type} {enc : TypeId × Value → H} {W : World} {base : Nat} {sp : Nat → Bool} {held : Bool} {v : Value} {d : DataW H} {ps : List MemPlace} (hd : DataW.Trod enc Try.prog W base sp held 22 v d ps) (hv : ∃ p n cap, v = .slice p n cap) :
    ∃ (p : Option Addr) (xs : List Int) (cap : Nat), v = .slice p xs.length cap ∧ xs.length ≤ cap ∧ (p = none → cap = 0) ∧ VL W p (xs.map enI) := by
  obtain ⟨p, n0, cap0, rfl⟩ := hv
  obtain ⟨fuel, h⟩ := hd
  have hc : Try.prog.cellsOf 3 = 1 := by kernel_rfl
  rcases Deep.open_slice Try.underlying22 h with ⟨e, _⟩ | ⟨a, len, cap, m, n, D, Pl, e, hb, hlc, hcm, hm, hx, hel⟩
  · simp [Value.cells] at e
    obtain ⟨rfl, rfl, rfl⟩ := e
    exact ⟨none, [], 0, rfl, by simp, fun _ => rfl, fun hn => absurd rfl hn⟩
  · simp [Value.cells] at e
    obtain ⟨rfl, rfl, rfl⟩ := e
    have hlm : n0 ≤ m := by rw [hm]; split <;> omega
    rw [hc] at hel
    have each : ∀ i, i < n0 → ∃ x : Int, W.cell? (a.add i) = some (.int .i64 x) := fun i hi => by
      obtain ⟨cs', h1, h2⟩ := hel i (by omega)
      obtain ⟨h3, h4, h5⟩ := World.cells?_some h1
      obtain ⟨z, hz, _, hw⟩ := DataW.trod_int Try.underlying3 h2
      refine ⟨z, ?_⟩
      have h7 := h5 0 (by omega)
      rw [Deep.add_add] at h7
      rw [show i * 1 + 0 = i by omega] at h7
      rw [h7, hz]
      simp
    let F : Nat → Int := fun i => if h : i < n0 then Classical.choose (each i h) else 0
    have hF : ∀ i (hi : i < n0), W.cell? (a.add i) = some (.int .i64 (F i)) := fun i hi => by
      have : F i = Classical.choose (each i hi) := by show (if h : i < n0 then _ else _) = _; rw [dif_pos hi]
      rw [this]; exact Classical.choose_spec (each i hi)
    refine ⟨some a, (List.range n0).map F, cap0, by simp, by simpa using hlc, fun h0 => (by cases h0), fun hne => ?_⟩
    have h0 : 0 < n0 := by
      rcases Nat.eq_zero_or_pos n0 with h | h
      · subst h; simp at hne
      · exact h
    obtain ⟨b, off, spot⟩ := a
    have hc0 := hF 0 h0
    have hspot : spot = none := by simpa [Addr.add] using World.cell?_spot hc0
    subst hspot
    refine ⟨b, off, rfl, ?_, fun j hj => ?_⟩
    · have := block_lt_of_cell hc0; simpa [Addr.add] using this
    · have hj' : j < n0 := by simpa using hj
      have e2 : (⟨b, off, none⟩ : Addr).add j = ⟨b, off + j, none⟩ := by unfold Addr.add; split <;> simp_all
      rw [← e2, hF j hj']
      simp [hj', enI]
theorem open_texts {H : Type} {enc : TypeId × Value → H} {W : World} {base : Nat} {sp : Nat → Bool} {held : Bool} {v : Value} {d : DataW H} {ps : List MemPlace} (hd : DataW.Trod enc Try.prog W base sp held 41 v d ps) (hv : ∃ p n cap, v = .slice p n cap) :
    ∃ (p : Option Addr) (xs : List (List UInt8)) (cap : Nat), v = .slice p xs.length cap ∧ xs.length ≤ cap ∧ (p = none → cap = 0) ∧ VL W p (xs.map enS) := by
  obtain ⟨p, n0, cap0, rfl⟩ := hv
  obtain ⟨fuel, h⟩ := hd
  have hc : Try.prog.cellsOf 9 = 1 := by kernel_rfl
  rcases Deep.open_slice Try.underlying41 h with ⟨e, _⟩ | ⟨a, len, cap, m, n, D, Pl, e, hb, hlc, hcm, hm, hx, hel⟩
  · simp [Value.cells] at e
    obtain ⟨rfl, rfl, rfl⟩ := e
    exact ⟨none, [], 0, rfl, by simp, fun _ => rfl, fun hn => absurd rfl hn⟩
  · simp [Value.cells] at e
    obtain ⟨rfl, rfl, rfl⟩ := e
    have hlm : n0 ≤ m := by rw [hm]; split <;> omega
    rw [hc] at hel
    have each : ∀ i, i < n0 → ∃ x : List UInt8, W.cell? (a.add i) = some (.string (str x)) := fun i hi => by
      obtain ⟨cs', h1, h2⟩ := hel i (by omega)
      obtain ⟨h3, h4, h5⟩ := World.cells?_some h1
      obtain ⟨z, hz, _, hw⟩ := DataW.trod_string Try.underlying9 h2
      refine ⟨z.data.toList, ?_⟩
      have h7 := h5 0 (by omega)
      rw [Deep.add_add] at h7
      rw [show i * 1 + 0 = i by omega] at h7
      rw [h7, hz]
      simp [str_list]
    let F : Nat → List UInt8 := fun i => if h : i < n0 then Classical.choose (each i h) else []
    have hF : ∀ i (hi : i < n0), W.cell? (a.add i) = some (.string (str (F i))) := fun i hi => by
      have : F i = Classical.choose (each i hi) := by show (if h : i < n0 then _ else _) = _; rw [dif_pos hi]
      rw [this]; exact Classical.choose_spec (each i hi)
    refine ⟨some a, (List.range n0).map F, cap0, by simp, by simpa using hlc, fun h0 => (by cases h0), fun hne => ?_⟩
    have h0 : 0 < n0 := by
      rcases Nat.eq_zero_or_pos n0 with h | h
      · subst h; simp at hne
      · exact h
    obtain ⟨b, off, spot⟩ := a
    have hc0 := hF 0 h0
    have hspot : spot = none := by simpa [Addr.add] using World.cell?_spot hc0
    subst hspot
    refine ⟨b, off, rfl, ?_, fun j hj => ?_⟩
    · have := block_lt_of_cell hc0; simpa [Addr.add] using this
    · have hj' : j < n0 := by simpa using hj
      have e2 : (⟨b, off, none⟩ : Addr).add j = ⟨b, off + j, none⟩ := by unfold Addr.add; split <;> simp_all
      rw [← e2, hF j hj']
      simp [hj', enS]
end Go.Proofs.Ytljocohbdghpaaa
