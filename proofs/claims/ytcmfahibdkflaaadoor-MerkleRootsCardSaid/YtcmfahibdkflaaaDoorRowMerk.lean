/-
  LISTS OF DIGESTS AS ARGUMENTS: what a row hands the walks.
-/
import Derived.Test.YtcmfahibdkflaaaDoorRowDig
import Derived.Test.YtcmfahibdkflaaaDoorMerkB
import Derived.Deep.DeepHandedRow
namespace Go.Proofs.YtcmfahibdkflaaaDoor
open Go.ChangeShapes Go.WideShapes Go.ChangeAt Go.RowKit
set_option linter.unusedVariables false

theorem open_dl {H : Type} {enc : TypeId × Value → H} {W : World} {base : Nat} {sp : Nat → Bool} {held : Bool} {v : Value} {d : DataW H} {ps : List MemPlace} (hd : DataW.Trod enc Tryd.prog W base sp held 39 v d ps) (hv : ∃ p n cap, v = .slice p n cap) :
    ∃ p ds cap, v = .slice p ds.length cap ∧ ds.length ≤ cap ∧ ds.length ≤ maxLen ∧ DL W p ds := by
  obtain ⟨p, n0, cap0, rfl⟩ := hv
  obtain ⟨fuel, h⟩ := hd
  have hc : Tryd.prog.cellsOf 24 = 32 := by kernel_rfl
  rcases Deep.open_slice Tryd.underlying39 h with ⟨e, _⟩ | ⟨a, len, cap, m, n, D, Pl, e, hb, hlc, hcm, hm, hx, hel⟩
  · simp [Value.cells] at e
    obtain ⟨rfl, rfl, rfl⟩ := e
    exact ⟨none, [], 0, rfl, by simp, by simp, ⟨fun d hd => by simp at hd, fun hn => absurd rfl hn⟩⟩
  · simp [Value.cells] at e
    obtain ⟨rfl, rfl, rfl⟩ := e
    have hlm : n0 ≤ m := by rw [hm]; split <;> omega
    rw [hc] at hel
    have each : ∀ i, i < n0 → ∃ l : List UInt8, l.length = 32 ∧ ∀ j, j < 32 → W.cell? (a.add (i * 32 + j)) = (bc l)[j]? := fun i hi => by
      obtain ⟨cs', h1, h2⟩ := hel i (by omega)
      obtain ⟨h3, h4, h5⟩ := World.cells?_some h1
      obtain ⟨l, hl, hll⟩ := open_digest (xs := cs'.toArray) (by simpa using h4) ⟨n, h2⟩
      refine ⟨l, hll, fun j hj => ?_⟩
      have h7 := h5 j hj
      rw [Deep.add_add] at h7
      rw [h7, ← hl]
      simp
    let F : Nat → List UInt8 := fun i => if h : i < n0 then Classical.choose (each i h) else List.replicate 32 0
    have hF : ∀ i (hi : i < n0), (F i).length = 32 ∧ ∀ j, j < 32 → W.cell? (a.add (i * 32 + j)) = (bc (F i))[j]? := fun i hi => by
      have : F i = Classical.choose (each i hi) := by show (if h : i < n0 then _ else _) = _; rw [dif_pos hi]
      rw [this]; exact Classical.choose_spec (each i hi)
    refine ⟨some a, (List.range n0).map F, cap0, by simp, by simpa using hlc, by simp; omega, ⟨fun d hd => ?_, fun hn => ?_⟩⟩
    · obtain ⟨i, hi, rfl⟩ := List.mem_map.1 hd
      exact (hF i (List.mem_range.1 hi)).1
    · have h0 : 0 < n0 := by
        rcases Nat.eq_zero_or_pos n0 with h | h
        · subst h; simp at hn
        · exact h
      obtain ⟨b, off, spot⟩ := a
      have hc0 : W.cell? ((⟨b, off, spot⟩ : Addr).add (0 * 32 + 0)) = some (.int .u8 (((F 0).getD 0 0).toNat : Int)) := by
        rw [(hF 0 h0).2 0 (by omega)]; exact bc_at _ _ (by rw [(hF 0 h0).1]; omega)
      have hspot : spot = none := by simpa [Addr.add] using World.cell?_spot hc0
      subst hspot
      refine ⟨b, off, rfl, ?_, fun i hi j v hv => ?_⟩
      · have := block_lt_of_cell hc0; simpa [Addr.add] using this
      · have hi' : i < n0 := by simpa using hi
        have e1 : ((List.range n0).map F).getD i [] = F i := by simp [hi']
        rw [e1] at hv
        have hj : j < 32 := by
          have := (List.getElem?_eq_some_iff.1 hv).1
          rw [Lib.byteCells_length, (hF i hi').1] at this
          exact this
        have h8 := (hF i hi').2 j hj
        have e2 : (⟨b, off, none⟩ : Addr).add (i * 32 + j) = ⟨b, off + i * 32 + j, none⟩ := by unfold Addr.add; split <;> simp_all [Nat.add_assoc]
        rw [e2] at h8
        rw [h8]
        simpa [bc] using hv
end Go.Proofs.YtcmfahibdkflaaaDoor
