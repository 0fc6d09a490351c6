/-
  ARRAYS OF NUMBERS AS ARGUMENTS: what a row hands the walks. Over whatever program.
-/
/-
  A DIGEST AS THE ARGUMENT OF A ROW.
-/
/-
  A BOOK AS AN ARGUMENT: what a row hands the walks.
-/
import Derived.Test.YtjoefhdclghgaaaDoorJ0
import Derived.ProofKit
import Derived.OpenShut
import Derived.WideKeyArr2
import Derived.ChangeMaps5
import Derived.Deep.Slices
import Derived.Lib.SmallJoins
import Derived.Test.YtjoefhdclghgaaaDoorJ5
import Derived.Deep.DeepHandedRow
namespace Go.Proofs.YtjoefhdclghgaaaDoor
open Go.ChangeShapes Go.WideShapes Go.ChangeAt Go.RowKit

theorem mapM_ints {H : Type} {enc : TypeId × Value → H} {P : Program} {W : World} {base : Nat} {sp : Nat → Bool} {held : Bool} {e : TypeId} {q : IntKind} (he : P.underlying e = some (.int q)) {m : Nat} {cs : List Value} {c : Nat} :
    ∀ (L : List Nat) (xs : List (DataW H × List MemPlace)), L.mapM (fun i => DataW.trod enc P W base sp held m e ((cs.drop (i * c)).take c)) = some xs → ∀ i ∈ L, ∃ a, (cs.drop (i * c)).take c = [.int q a] ∧ (Lit.int q a).wf = true
  | [], xs, h => by intro i hi; cases hi
  | i :: L, xs, h => by
    rw [List.mapM_cons] at h
    simp only [bind, Option.bind_eq_some_iff, pure, Option.some.injEq] at h
    obtain ⟨y, hy, ys, hys, rfl⟩ := h
    intro j hj
    rcases List.mem_cons.1 hj with rfl | hj
    · obtain ⟨a, ea, _, wa⟩ := DataW.trod_int he hy
      exact ⟨a, ea, wa⟩
    · exact mapM_ints he L ys hys j hj
/-- The numbers of an array that came in. -/
theorem open_numbers {H : Type} {enc : TypeId × Value → H} {P : Program} {W : World} {base : Nat} {sp : Nat → Bool} {held : Bool} {k e : TypeId} {n : Nat} {q : IntKind} (A : WideMaps.ArrKey P k e n) (he : P.underlying e = some (.int q))
    {xs : Array Value} (hn : xs.size = n) {d : DataW H} {ps : List MemPlace} (hd : DataW.Trod enc P W base sp held k (.agg xs) d ps) :
    ∃ zs : List Int, zs.length = n ∧ xs = (zs.map (Value.int q)).toArray ∧ ∀ z ∈ zs, (Lit.int q z).wf = true := by
  obtain ⟨fuel, hf⟩ := hd
  cases fuel with
  | zero => simp [DataW.trod] at hf
  | succ m =>
    rw [DataW.trod_step] at hf
    unfold DataW.trodStep at hf
    simp only [A.hu, Value.cells] at hf
    rw [if_pos (by rw [A.size]; simpa using hn)] at hf
    simp only [Option.map_eq_some_iff] at hf
    obtain ⟨ys, hy, e1⟩ := hf
    have hc := mapM_ints he _ ys hy
    rw [A.one] at hc
    have hc' : ∀ i, i < n → ∃ a, xs.toList[i]? = some (.int q a) ∧ (Lit.int q a).wf = true := fun i hi => by
      obtain ⟨a, ha, hw⟩ := hc i (List.mem_range.2 hi)
      refine ⟨a, ?_, hw⟩
      rw [Nat.mul_one] at ha
      have h0 : ((xs.toList.drop i).take 1)[0]? = some (.int q a) := by rw [ha]; rfl
      simpa using h0
    refine ⟨xs.toList.map intOf, by simpa using hn, ?_, ?_⟩
    · apply Array.ext'
      simp only [List.map_map]
      apply List.ext_getElem?
      intro i
      by_cases hi : i < n
      · obtain ⟨a, ha, _⟩ := hc' i hi
        rw [ha]; simp [ha, intOf]
      · rw [List.getElem?_eq_none (by simpa [hn] using Nat.le_of_not_lt hi), List.getElem?_eq_none (by simpa [hn] using Nat.le_of_not_lt hi)]
    · intro z hz
      obtain ⟨v, hv, rfl⟩ := List.mem_map.1 hz
      obtain ⟨i, hi, rfl⟩ := List.getElem_of_mem hv
      obtain ⟨a, ha, hw⟩ := hc' i (by simpa [hn] using hi)
      rw [List.getElem?_eq_getElem hi] at ha
      rw [Option.some.inj ha]; exact hw
end Go.Proofs.YtjoefhdclghgaaaDoor

namespace Go.Proofs.YtjoefhdclghgaaaDoor
open Go.ChangeShapes Go.WideShapes Go.ChangeAt Go.RowKit
set_option linter.unusedVariables false

theorem arrD : WideMaps.ArrKey Tryd.prog 23 5 32 := ⟨Tryd.underlying23, by kernel_rfl, by kernel_rfl, by kernel_rfl⟩
theorem open_digest {H : Type} {enc : TypeId × Value → H} {W : World} {base : Nat} {sp : Nat → Bool} {held : Bool} {xs : Array Value} (hn : xs.size = 32) {d : DataW H} {ps : List MemPlace} (hd : DataW.Trod enc Tryd.prog W base sp held 23 (.agg xs) d ps) :
    ∃ l : List UInt8, xs = bc l ∧ l.length = 32 := by
  obtain ⟨zs, hl, rfl, hw⟩ := open_numbers arrD Tryd.underlying5 hn hd
  have e : ∀ z ∈ zs, ((UInt8.ofNat z.toNat).toNat : Int) = z := fun z hz => by
    have := hw z hz
    simp [Lit.wf, IntKind.min, IntKind.max, IntKind.signed, IntKind.bits] at this
    rw [UInt8.toNat_ofNat']; omega
  refine ⟨zs.map fun z => UInt8.ofNat z.toNat, ?_, by simpa using hl⟩
  unfold bc Lib.byteCells
  rw [List.map_map]
  congr 1
  apply List.map_congr_left
  intro z hz
  simp only [Function.comp_apply]
  rw [e z hz]
end Go.Proofs.YtjoefhdclghgaaaDoor

namespace Go.Proofs.YtjoefhdclghgaaaDoor
open Go.ChangeShapes Go.WideShapes Go.ChangeAt Go.RowKit
set_option linter.unusedVariables false

theorem open_signed {H : Type} {enc : TypeId × Value → H} {W : World} {base : Nat} {sp : Nat → Bool} {held : Bool} {xs : Array Value} (hn : xs.size = 64) {d : DataW H} {ps : List MemPlace} (hd : DataW.Trod enc Tryd.prog W base sp held 45 (.agg xs) d ps) :
    ∃ l : List UInt8, xs = bc l ∧ l.length = 64 := by
  obtain ⟨fuel, hf⟩ := hd
  have e1 : Tryd.prog.cellsOf 23 = 32 := by kernel_rfl
  obtain ⟨y0, y1, n, hx, hl, h0, h1⟩ := trod_struct2 Tryd.underlying45 hf
  simp only [e1, Value.cells] at h0 h1
  have hL : xs.toList.length = 64 := by simpa using hn
  obtain ⟨l0, hl0, hn0⟩ := open_digest (xs := ((xs.toList.drop 0).take 32).toArray) (by simp; omega) ⟨n, h0⟩
  obtain ⟨l1, hl1, hn1⟩ := open_digest (xs := ((xs.toList.drop 32).take 32).toArray) (by simp; omega) ⟨n, h1⟩
  refine ⟨l0 ++ l1, ?_, by rw [List.length_append, hn0, hn1]⟩
  apply Array.toList_inj.1
  have hsplit : xs.toList = (xs.toList.drop 0).take 32 ++ (xs.toList.drop 32).take 32 := by
    rw [List.drop_zero, List.take_of_length_le (l := xs.toList.drop 32) (by rw [List.length_drop]; omega), List.take_append_drop]
  have a0 : (xs.toList.drop 0).take 32 = (bc l0).toList := by rw [← hl0]
  have a1 : (xs.toList.drop 32).take 32 = (bc l1).toList := by rw [← hl1]
  rw [hsplit, a0, a1]
  simp [bc, Lib.byteCells]
theorem open_bl {H : Type} {enc : TypeId × Value → H} {W : World} {base : Nat} {sp : Nat → Bool} {held : Bool} {v : Value} {d : DataW H} {ps : List MemPlace} (hd : DataW.Trod enc Tryd.prog W base sp held 42 v d ps) (hv : ∃ p n cap, v = .slice p n cap) :
    ∃ p B cap, v = .slice p B.length cap ∧ B.length ≤ cap ∧ B.length ≤ maxLen ∧ BL W p B := by
  obtain ⟨p, n0, cap0, rfl⟩ := hv
  obtain ⟨fuel, h⟩ := hd
  have hc : Tryd.prog.cellsOf 45 = 64 := by kernel_rfl
  rcases Deep.open_slice Tryd.underlying42 h with ⟨e, _⟩ | ⟨a, len, cap, m, n, D, Pl, e, hb, hlc, hcm, hm, hx, hel⟩
  · simp [Value.cells] at e
    obtain ⟨rfl, rfl, rfl⟩ := e
    exact ⟨none, [], 0, rfl, by simp, by simp, ⟨fun d hd => by simp at hd, fun hn => absurd rfl hn⟩⟩
  · simp [Value.cells] at e
    obtain ⟨rfl, rfl, rfl⟩ := e
    have hlm : n0 ≤ m := by rw [hm]; split <;> omega
    rw [hc] at hel
    have each : ∀ i, i < n0 → ∃ l : List UInt8, l.length = 64 ∧ ∀ j, j < 64 → W.cell? (a.add (i * 64 + j)) = (bc l)[j]? := fun i hi => by
      obtain ⟨cs', h1, h2⟩ := hel i (by omega)
      obtain ⟨h3, h4, h5⟩ := World.cells?_some h1
      obtain ⟨l, hl, hll⟩ := open_signed (xs := cs'.toArray) (by simpa using h4) ⟨n, h2⟩
      refine ⟨l, hll, fun j hj => ?_⟩
      have h7 := h5 j hj
      rw [Deep.add_add] at h7
      rw [h7, ← hl]
      simp
    let F : Nat → List UInt8 := fun i => if h : i < n0 then Classical.choose (each i h) else List.replicate 64 0
    have hF : ∀ i (hi : i < n0), (F i).length = 64 ∧ ∀ j, j < 64 → W.cell? (a.add (i * 64 + j)) = (bc (F i))[j]? := fun i hi => by
      have : F i = Classical.choose (each i hi) := by show (if h : i < n0 then _ else _) = _; rw [dif_pos hi]
      rw [this]; exact Classical.choose_spec (each i hi)
    refine ⟨some a, (List.range n0).map F, cap0, by simp, by simpa using hlc, by simp; omega, ⟨fun d hd => ?_, fun hn => ?_⟩⟩
    · obtain ⟨i, hi, rfl⟩ := List.mem_map.1 hd
      exact (hF i (List.mem_range.1 hi)).1
    · have h0 : 0 < n0 := by
        rcases Nat.eq_zero_or_pos n0 with h | h
        · subst h; simp at hn
        · exact h
      obtain ⟨b, off, spot⟩ := a
      have hc0 : W.cell? ((⟨b, off, spot⟩ : Addr).add (0 * 64 + 0)) = some (.int .u8 (((F 0).getD 0 0).toNat : Int)) := by
        rw [(hF 0 h0).2 0 (by omega)]; exact bc_at _ _ (by rw [(hF 0 h0).1]; omega)
      have hspot : spot = none := by simpa [Addr.add] using World.cell?_spot hc0
      subst hspot
      refine ⟨b, off, rfl, ?_, fun i hi j v hv => ?_⟩
      · have := block_lt_of_cell hc0; simpa [Addr.add] using this
      · have hi' : i < n0 := by simpa using hi
        have e1 : ((List.range n0).map F).getD i [] = F i := by simp [hi']
        rw [e1] at hv
        have hj : j < 64 := by
          have := (List.getElem?_eq_some_iff.1 hv).1
          rw [Lib.byteCells_length, (hF i hi').1] at this
          exact this
        have h8 := (hF i hi').2 j hj
        have e2 : (⟨b, off, none⟩ : Addr).add (i * 64 + j) = ⟨b, off + i * 64 + j, none⟩ := by unfold Addr.add; split <;> simp_all [Nat.add_assoc]
        rw [e2] at h8
        rw [h8]
        simpa [bc] using hv
end Go.Proofs.YtjoefhdclghgaaaDoor
