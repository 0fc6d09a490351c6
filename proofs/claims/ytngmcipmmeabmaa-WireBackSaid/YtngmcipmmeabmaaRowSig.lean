/-
  A DIGEST, A LIST OF DIGESTS, A SIGNATURE AS ARGUMENTS: what a row hands the walks.
-/
import Derived.Test.YtngmcipmmeabmaaRowNum
import Derived.Test.YtngmcipmmeabmaaWireRead5
import Derived.Deep.Slices
import Derived.Lib.SmallJoins
namespace Go.Proofs.Ytngmcipmmeabmaa
open Go.ChangeShapes Go.WideShapes Go.ChangeAt Go.RowKit
set_option linter.unusedVariables false

theorem arrD : WideMaps.ArrKey Try.prog 24 5 32 := ⟨Try.underlying24, by kernel_rfl, by kernel_rfl, by kernel_rfl⟩
theorem open_digest {H : Type} {enc : TypeId × Value → H} {W : World} {base : Nat} {sp : Nat → Bool} {held : Bool} {xs : Array Value} (hn : xs.size = 32) {d : DataW H} {ps : List MemPlace} (hd : DataW.Trod enc Try.prog W base sp held 24 (.agg xs) d ps) :
    ∃ l : List UInt8, xs = bc l ∧ l.length = 32 := by
  obtain ⟨zs, hl, rfl, hw⟩ := open_numbers arrD Try.underlying5 hn hd
  have e : ∀ z ∈ zs, ((UInt8.ofNat z.toNat).toNat : Int) = z := fun z hz => by
    have := hw z hz
    simp [Lit.wf, IntKind.min, IntKind.max, IntKind.signed, IntKind.bits] at this
    rw [UInt8.toNat_ofNat']; omega
  refine ⟨zs.map fun z => UInt8.ofNat z.toNat, ?_, by simpa using hl⟩
  unfold bc Lib.byteCells
  rw [List.map_map]
  congr 1
  apply List.map_congr_left
  intro z hz
  simp only [Function.comp_apply]
  rw [e z hz]
/-- A list of digests that came in. -/
theorem open_digs {H : Type} {enc : TypeId × Value → H} {W : World} {base : Nat} {sp : Nat → Bool} {held : Bool} {fuel : Nat} {cs : List Value} {x : DataW H × List MemPlace} (h : DataW.trod enc Try.prog W base sp held fuel 25 cs = some x) :
    ∃ p n cap l, cs = [.slice p n cap] ∧ Digs W (.slice p n cap) l ∧ n ≤ maxLen := by
  have hc : Try.prog.cellsOf 24 = 32 := by kernel_rfl
  rcases Deep.open_slice Try.underlying25 h with ⟨rfl, _⟩ | ⟨a, len, cap, m, n, D, Pl, rfl, hb, hlc, hcm, hm, hx, hel⟩
  · exact ⟨none, 0, 0, [], rfl, ⟨none, 0, 0, rfl, rfl, fun hn => by omega⟩, by simp [maxLen]⟩
  · have hlm : len ≤ m := by rw [hm]; split <;> omega
    rw [hc] at hel
    have hcell : ∀ j, j < 32 * len → ∃ b : UInt8, W.cell? (a.add j) = some (.int .u8 (b.toNat : Int)) := fun j hj => by
      obtain ⟨cs', h1, h2⟩ := hel (j / 32) (by omega)
      obtain ⟨h3, h4, h5⟩ := World.cells?_some h1
      obtain ⟨l, hl, hll⟩ := open_digest (xs := cs'.toArray) (by simpa using h4) ⟨n, h2⟩
      have hr : j % 32 < 32 := Nat.mod_lt _ (by decide)
      have h6 := bc_at l (j % 32) (by omega)
      rw [← hl] at h6
      refine ⟨l.getD (j % 32) 0, ?_⟩
      have h7 := h5 (j % 32) hr
      rw [Deep.add_add, show j / 32 * 32 + j % 32 = j by omega] at h7
      rw [h7]; simpa using h6
    refine ⟨some a, len, cap, (List.range (32 * len)).map fun j => match W.cell? (a.add j) with | some (.int .u8 z) => UInt8.ofNat z.toNat | _ => 0, rfl, ⟨some a, len, cap, rfl, by simp, fun hn => ?_⟩, by omega⟩
    obtain ⟨b, off, spot⟩ := a
    obtain ⟨b0, hb0⟩ := hcell 0 (by omega)
    have hspot : spot = none := by simpa [Addr.add] using World.cell?_spot hb0
    subst hspot
    refine ⟨b, off, rfl, ?_, fun j hj => ?_⟩
    · have := block_lt_of_cell hb0; simpa [Addr.add] using this
    · have hj' : j < 32 * len := by simpa using hj
      obtain ⟨bj, hbj⟩ := hcell j hj'
      have e : (⟨b, off, none⟩ : Addr).add j = ⟨b, off + j, none⟩ := by unfold Addr.add; split <;> simp_all
      rw [e] at hbj
      rw [hbj]
      simp [hj', e, hbj]
/-- A signature that came in. -/
theorem open_sig {H : Type} {enc : TypeId × Value → H} {W : World} {base : Nat} {sp : Nat → Bool} {held : Bool} {cs : Array Value} (hn : cs.size = 4) {d : DataW H} {ps : List MemPlace} (hd : DataW.Trod enc Try.prog W base sp held 27 (.agg cs) d ps) :
    ∃ i p1 n1 c1 l1 p2 n2 c2 l2 p3 n3 c3 l3, cs = #[.int .i64 i, .slice p1 n1 c1, .slice p2 n2 c2, .slice p3 n3 c3] ∧ (Lit.int .i64 i).wf = true ∧ Digs W (.slice p1 n1 c1) l1 ∧ Digs W (.slice p2 n2 c2) l2 ∧ Digs W (.slice p3 n3 c3) l3 ∧ n1 ≤ maxLen ∧ n2 ≤ maxLen ∧ n3 ≤ maxLen := by
  obtain ⟨fuel, hf⟩ := hd
  have h3 : Try.prog.cellsOf 3 = 1 := by kernel_rfl
  have h25 : Try.prog.cellsOf 25 = 1 := by kernel_rfl
  match cs, hn with
  | ⟨[c0, c1, c2, c3]⟩, _ =>
    obtain ⟨y0, y1, y2, y3, n, hx, hl, h0, h1, h2, h4⟩ := Go.Joins.trod_struct4 Try.underlying27 hf
    simp only [h3, h25, Value.cells, List.drop_zero, List.take_succ_cons, List.take_zero, List.drop_succ_cons] at h0 h1 h2 h4
    obtain ⟨a, ha, _, hw⟩ := DataW.trod_int Try.underlying3 h0
    obtain ⟨p1, n1, k1, l1, e1, D1, m1⟩ := open_digs h1
    obtain ⟨p2, n2, k2, l2, e2, D2, m2⟩ := open_digs h2
    obtain ⟨p3, n3, k3, l3, e3, D3, m3⟩ := open_digs h4
    simp only [List.cons.injEq, and_true] at ha e1 e2 e3
    subst ha e1 e2 e3
    exact ⟨a, p1, n1, k1, l1, p2, n2, k2, l2, p3, n3, k3, l3, rfl, hw, D1, D2, D3, m1, m2, m3⟩
end Go.Proofs.Ytngmcipmmeabmaa
