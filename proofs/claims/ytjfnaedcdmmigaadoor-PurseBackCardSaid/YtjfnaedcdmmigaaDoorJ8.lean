/-
  A PURSE, AN ACT AS ARGUMENTS: what a row hands the walks.
-/
/-
  PurseBack: what is locked is unlocked again, what is minted burned: the holdings are as they were.
-/
/-
  WHAT A ROW THAT LISTS THE TWO TABLES OF PACKAGE UTF8 ALONE GIVES THE WALKS; a world for the witness.
-/
import Derived.Test.YtjfnaedcdmmigaaDoorJ7
import Derived.Deep.Slices
import Derived.Deep.DeepHandedRow
import Derived.Lib.SmallJoins
import Derived.ChangeMaps5
import Derived.ProofKit
import Derived.OpenShut
import Derived.Test.YtjfnaedcdmmigaaDoorRows
import Derived.Lib.LaidTab
import Derived.LaidSub
import Derived.Test.YtjfnaedcdmmigaaDoorJ3
import Derived.Lib.LaidU8
namespace Go.Proofs.YtjfnaedcdmmigaaDoor
open Go.ChangeShapes Go.WideShapes Go.ChangeAt Go.RowKit
set_option linter.unusedVariables false

/-- A list of structs in memory that came in. -/
theorem open_el {H : Type} {enc : TypeId × Value → H} {W : World} {base : Nat} {sp : Nat → Bool} {held : Bool} {α : Type} [Inhabited α] {f : α → List Value} {k : Nat} {pa : α → Prop} (he : ∀ x, (f x).length = k) (hk : 0 < k) {tl te : TypeId} (hU : Tryd.prog.underlying tl = some (.slice te)) (hc : Tryd.prog.cellsOf te = k)
    (ho : ∀ (cs : List Value) (n : Nat) (y : DataW H × List MemPlace), cs.length = k → DataW.trod enc Tryd.prog W base sp held n te cs = some y → ∃ x, pa x ∧ cs = f x)
    {fuel : Nat} {cs : List Value} {x : DataW H × List MemPlace} (h : DataW.trod enc Tryd.prog W base sp held fuel tl cs = some x) :
    ∃ p xs cap, cs = [.slice p xs.length cap] ∧ (∀ x ∈ xs, pa x) ∧ EL f W p xs := by
  rcases Deep.open_slice hU h with ⟨e, _⟩ | ⟨a, n0, cap, m, n, D, Pl, e, hb, hlc, hcm, hm, hx, hel⟩
  · exact ⟨none, [], 0, e, fun x hx => by simp at hx, fun hn => absurd rfl hn⟩
  · have hlm : n0 ≤ m := by rw [hm]; split <;> omega
    rw [hc] at hel
    have each : ∀ i, i < n0 → ∃ x : α, pa x ∧ ∀ j, j < k → W.cell? (a.add (i * k + j)) = (f x)[j]? := fun i hi => by
      obtain ⟨cs', h1, h2⟩ := hel i (by omega)
      obtain ⟨h3, h4, h5⟩ := World.cells?_some h1
      obtain ⟨x, hx, hcx⟩ := ho cs' n _ (by simpa using h4) h2
      refine ⟨x, hx, fun j hj => ?_⟩
      have h7 := h5 j hj
      rw [Deep.add_add] at h7
      rw [h7, hcx]
    let F : Nat → α := fun i => if h : i < n0 then Classical.choose (each i h) else default
    have hF : ∀ i (hi : i < n0), pa (F i) ∧ ∀ j, j < k → W.cell? (a.add (i * k + j)) = (f (F i))[j]? := fun i hi => by
      have : F i = Classical.choose (each i hi) := by show (if h : i < n0 then _ else _) = _; rw [dif_pos hi]
      rw [this]; exact Classical.choose_spec (each i hi)
    refine ⟨some a, (List.range n0).map F, cap, by rw [e]; simp, fun x hx => ?_, fun hne => ?_⟩
    · obtain ⟨i, hi, rfl⟩ := List.mem_map.1 hx
      exact (hF i (List.mem_range.1 hi)).1
    · have hl := flatE_len he ((List.range n0).map F)
      simp only [List.length_map, List.length_range] at hl
      have h0 : 0 < n0 := by
        rcases Nat.eq_zero_or_pos n0 with h | h
        · subst h; simp at hne
        · exact h
      obtain ⟨b, off, spot⟩ := a
      have hc0 := (hF 0 h0).2 0 hk
      obtain ⟨v0, hv0⟩ : ∃ v0, (f (F 0))[0]? = some v0 := ⟨_, List.getElem?_eq_getElem (by rw [he]; exact hk)⟩
      rw [hv0] at hc0
      have hspot : spot = none := by simpa [Addr.add] using World.cell?_spot hc0
      subst hspot
      refine ⟨b, off, rfl, ?_, fun j hj => ?_⟩
      · have := block_lt_of_cell hc0; simpa [Addr.add] using this
      · rw [hl] at hj
        have hi : j / k < n0 := Nat.div_lt_of_lt_mul (by rw [Nat.mul_comm]; exact hj)
        have hr : j % k < k := Nat.mod_lt _ hk
        have hd : j / k * k + j % k = j := by rw [Nat.mul_comm]; exact Nat.div_add_mod j k
        have h8 := (hF (j / k) hi).2 (j % k) hr
        rw [hd] at h8
        have e2 : (⟨b, off, none⟩ : Addr).add j = ⟨b, off + j, none⟩ := by unfold Addr.add; split <;> simp_all
        rw [e2] at h8
        have h9 := flatE_at he ((List.range n0).map F) (j / k) (j % k) (F (j / k)) (by simp [hi]) hr
        rw [hd] at h9
        rw [h8, h9]
theorem list7 {α : Type} {cs : List α} (h : cs.length = 7) : ∃ c0 c1 c2 c3 c4 c5 c6, cs = [c0, c1, c2, c3, c4, c5, c6] := by
  match cs, h with
  | [c0, c1, c2, c3, c4, c5, c6], _ => exact ⟨c0, c1, c2, c3, c4, c5, c6, rfl⟩
theorem list4 {α : Type} {cs : List α} (h : cs.length = 4) : ∃ c0 c1 c2 c3, cs = [c0, c1, c2, c3] := by
  match cs, h with
  | [c0, c1, c2, c3], _ => exact ⟨c0, c1, c2, c3, rfl⟩
theorem list6 {α : Type} {cs : List α} (h : cs.length = 6) : ∃ c0 c1 c2 c3 c4 c5, cs = [c0, c1, c2, c3, c4, c5] := by
  match cs, h with
  | [c0, c1, c2, c3, c4, c5], _ => exact ⟨c0, c1, c2, c3, c4, c5, rfl⟩
theorem trod_struct7 {P : Program} {H : Type} {enc : TypeId × Value → H} {w : World} {base : Nat} {spare : Nat → Bool} {held : Bool} {t : TypeId} {f0 f1 f2 f3 f4 f5 f6 : Field} {fuel : Nat} {cs : List Value} {x : DataW H × List MemPlace} (ht : P.underlying t = some (.struct #[f0, f1, f2, f3, f4, f5, f6])) (h : DataW.trod enc P w base spare held fuel t cs = some x) :
    ∃ y0 y1 y2 y3 y4 y5 y6 n, DataW.trod enc P w base spare held n f0.type ((cs.drop f0.offset).take (P.cellsOf f0.type)) = some y0 ∧
      DataW.trod enc P w base spare held n f1.type ((cs.drop f1.offset).take (P.cellsOf f1.type)) = some y1 ∧ DataW.trod enc P w base spare held n f2.type ((cs.drop f2.offset).take (P.cellsOf f2.type)) = some y2 ∧
      DataW.trod enc P w base spare held n f3.type ((cs.drop f3.offset).take (P.cellsOf f3.type)) = some y3 ∧ DataW.trod enc P w base spare held n f4.type ((cs.drop f4.offset).take (P.cellsOf f4.type)) = some y4 ∧
      DataW.trod enc P w base spare held n f5.type ((cs.drop f5.offset).take (P.cellsOf f5.type)) = some y5 ∧ DataW.trod enc P w base spare held n f6.type ((cs.drop f6.offset).take (P.cellsOf f6.type)) = some y6 := by
  obtain ⟨xs, n, _, rfl, hl, hlen, hf⟩ := DataW.trod_struct ht h
  match xs, hlen with
  | [y0, y1, y2, y3, y4, y5, y6], _ => exact ⟨y0, y1, y2, y3, y4, y5, y6, n, by simpa using hf 0 f0 rfl, by simpa using hf 1 f1 rfl, by simpa using hf 2 f2 rfl, by simpa using hf 3 f3 rfl, by simpa using hf 4 f4 rfl, by simpa using hf 5 f5 rfl, by simpa using hf 6 f6 rfl⟩
theorem trod_struct6p {P : Program} {H : Type} {enc : TypeId × Value → H} {w : World} {base : Nat} {spare : Nat → Bool} {held : Bool} {t : TypeId} {f0 f1 f2 f3 f4 f5 : Field} {fuel : Nat} {cs : List Value} {x : DataW H × List MemPlace} (ht : P.underlying t = some (.struct #[f0, f1, f2, f3, f4, f5])) (h : DataW.trod enc P w base spare held fuel t cs = some x) :
    ∃ y0 y1 y2 y3 y4 y5 n, DataW.trod enc P w base spare held n f0.type ((cs.drop f0.offset).take (P.cellsOf f0.type)) = some y0 ∧
      DataW.trod enc P w base spare held n f1.type ((cs.drop f1.offset).take (P.cellsOf f1.type)) = some y1 ∧ DataW.trod enc P w base spare held n f2.type ((cs.drop f2.offset).take (P.cellsOf f2.type)) = some y2 ∧
      DataW.trod enc P w base spare held n f3.type ((cs.drop f3.offset).take (P.cellsOf f3.type)) = some y3 ∧ DataW.trod enc P w base spare held n f4.type ((cs.drop f4.offset).take (P.cellsOf f4.type)) = some y4 ∧
      DataW.trod enc P w base spare held n f5.type ((cs.drop f5.offset).take (P.cellsOf f5.type)) = some y5 := by
  obtain ⟨xs, n, _, rfl, hl, hlen, hf⟩ := DataW.trod_struct ht h
  match xs, hlen with
  | [y0, y1, y2, y3, y4, y5], _ => exact ⟨y0, y1, y2, y3, y4, y5, n, by simpa using hf 0 f0 rfl, by simpa using hf 1 f1 rfl, by simpa using hf 2 f2 rfl, by simpa using hf 3 f3 rfl, by simpa using hf 4 f4 rfl, by simpa using hf 5 f5 rfl⟩
def Tkn.num (t : Tkn) : Prop := t.o < 4294967296 ∧ t.cap < 18446744073709551616 ∧ t.lk < 18446744073709551616 ∧ t.ul < 18446744073709551616 ∧ t.mi < 18446744073709551616 ∧ t.bu < 18446744073709551616
def Hol.num (h : Hol) : Prop := h.o < 4294967296 ∧ h.a < 18446744073709551616
theorem open_tok {H : Type} {enc : TypeId × Value → H} {W : World} {base : Nat} {sp : Nat → Bool} {held : Bool} (cs : List Value) (fuel : Nat) (y : DataW H × List MemPlace) (hn : cs.length = 7) (hf : DataW.trod enc Tryd.prog W base sp held fuel 38 cs = some y) : ∃ x : Tkn, x.num ∧ cs = tokC x := by
  have h3 : Tryd.prog.cellsOf 28 = 1 := by kernel_rfl
  have h4 : Tryd.prog.cellsOf 9 = 1 := by kernel_rfl
  have h5 : Tryd.prog.cellsOf 29 = 1 := by kernel_rfl
  obtain ⟨c0, c1, c2, c3, c4, c5, c6, rfl⟩ := list7 hn
  obtain ⟨y0, y1, y2, y3, y4, y5, y6, n, g0, g1, g2, g3, g4, g5, g6⟩ := trod_struct7 Tryd.underlying38 hf
  simp only [h3, h4, h5, List.drop_zero, List.take_succ_cons, List.take_zero, List.drop_succ_cons] at g0 g1 g2 g3 g4 g5 g6
  obtain ⟨a0, e0, _, w0⟩ := DataW.trod_int Tryd.underlying28 g0
  obtain ⟨s, e1, _, ws⟩ := DataW.trod_string Tryd.underlying9 g1
  obtain ⟨a2, e2, _, w2⟩ := DataW.trod_int Tryd.underlying29 g2
  obtain ⟨a3, e3, _, w3⟩ := DataW.trod_int Tryd.underlying29 g3
  obtain ⟨a4, e4, _, w4⟩ := DataW.trod_int Tryd.underlying29 g4
  obtain ⟨a5, e5, _, w5⟩ := DataW.trod_int Tryd.underlying29 g5
  obtain ⟨a6, e6, _, w6⟩ := DataW.trod_int Tryd.underlying29 g6
  simp only [List.cons.injEq, and_true] at e0 e1 e2 e3 e4 e5 e6
  subst e0 e1 e2 e3 e4 e5 e6
  simp [Lit.wf, IntKind.min, IntKind.max, IntKind.signed, IntKind.bits] at w0 w2 w3 w4 w5 w6
  obtain ⟨a0, rfl⟩ := Int.eq_ofNat_of_zero_le w0.1
  obtain ⟨a2, rfl⟩ := Int.eq_ofNat_of_zero_le w2.1
  obtain ⟨a3, rfl⟩ := Int.eq_ofNat_of_zero_le w3.1
  obtain ⟨a4, rfl⟩ := Int.eq_ofNat_of_zero_le w4.1
  obtain ⟨a5, rfl⟩ := Int.eq_ofNat_of_zero_le w5.1
  obtain ⟨a6, rfl⟩ := Int.eq_ofNat_of_zero_le w6.1
  refine ⟨⟨a0, s.data.toList, a2, a3, a4, a5, a6⟩, ⟨by show a0 < _; omega, by show a2 < _; omega, by show a3 < _; omega, by show a4 < _; omega, by show a5 < _; omega, by show a6 < _; omega⟩, ?_⟩
  simp only [tokC, str_list]
theorem open_hol {H : Type} {enc : TypeId × Value → H} {W : World} {base : Nat} {sp : Nat → Bool} {held : Bool} (cs : List Value) (fuel : Nat) (y : DataW H × List MemPlace) (hn : cs.length = 4) (hf : DataW.trod enc Tryd.prog W base sp held fuel 75 cs = some y) : ∃ x : Hol, x.num ∧ cs = holC x := by
  have h3 : Tryd.prog.cellsOf 28 = 1 := by kernel_rfl
  have h4 : Tryd.prog.cellsOf 9 = 1 := by kernel_rfl
  have h5 : Tryd.prog.cellsOf 29 = 1 := by kernel_rfl
  obtain ⟨c0, c1, c2, c3, rfl⟩ := list4 hn
  obtain ⟨y0, y1, y2, y3, n, _, _, g0, g1, g2, g3⟩ := Go.Joins.trod_struct4 Tryd.underlying75 hf
  simp only [h3, h4, h5, List.drop_zero, List.take_succ_cons, List.take_zero, List.drop_succ_cons] at g0 g1 g2 g3
  obtain ⟨a0, e0, _, w0⟩ := DataW.trod_int Tryd.underlying28 g0
  obtain ⟨s, e1, _, ws⟩ := DataW.trod_string Tryd.underlying9 g1
  obtain ⟨r, e2, _, wr⟩ := DataW.trod_string Tryd.underlying9 g2
  obtain ⟨a3, e3, _, w3⟩ := DataW.trod_int Tryd.underlying29 g3
  simp only [List.cons.injEq, and_true] at e0 e1 e2 e3
  subst e0 e1 e2 e3
  simp [Lit.wf, IntKind.min, IntKind.max, IntKind.signed, IntKind.bits] at w0 w3
  obtain ⟨a0, rfl⟩ := Int.eq_ofNat_of_zero_le w0.1
  obtain ⟨a3, rfl⟩ := Int.eq_ofNat_of_zero_le w3.1
  refine ⟨⟨a0, s.data.toList, r.data.toList, a3⟩, ⟨by show a0 < _; omega, by show a3 < _; omega⟩, ?_⟩
  simp only [holC, str_list]
/-- A purse that came in. -/
theorem open_purse {H : Type} {enc : TypeId × Value → H} {W : World} {base : Nat} {sp : Nat → Bool} {held : Bool} {cs : Array Value} (hn : cs.size = 2) {d : DataW H} {ps : List MemPlace} (hd : DataW.Trod enc Tryd.prog W base sp held 27 (.agg cs) d ps) :
    ∃ ts hs, PM W (.agg cs) ts hs ∧ (∀ t ∈ ts, t.num) ∧ ∀ h ∈ hs, h.num := by
  obtain ⟨fuel, hf⟩ := hd
  have h3 : Tryd.prog.cellsOf 24 = 1 := by kernel_rfl
  have h4 : Tryd.prog.cellsOf 25 = 1 := by kernel_rfl
  obtain ⟨c0, c1, rfl⟩ : ∃ c0 c1, cs = #[c0, c1] := by
    obtain ⟨l⟩ := cs
    match l, hn with
    | [c0, c1], _ => exact ⟨c0, c1, rfl⟩
  obtain ⟨y0, y1, n, _, _, g0, g1⟩ := trod_struct2 Tryd.underlying27 hf
  simp only [h3, h4, Value.cells, List.drop_zero, List.take_succ_cons, List.take_zero, List.drop_succ_cons] at g0 g1
  obtain ⟨p1, ts, k1, e1, n1, l1⟩ := open_el (f := tokC) (pa := Tkn.num) tokC_len (by decide) Tryd.underlying24 (by kernel_rfl) (fun cs n y a b => open_tok cs n y a b) g0
  obtain ⟨p2, hs, k2, e2, n2, l2⟩ := open_el (f := holC) (pa := Hol.num) holC_len (by decide) Tryd.underlying25 (by kernel_rfl) (fun cs n y a b => open_hol cs n y a b) g1
  simp only [List.cons.injEq, and_true] at e1 e2
  subst e1 e2
  exact ⟨ts, hs, ⟨p1, k1, p2, k2, rfl, l1, l2⟩, n1, n2⟩
/-- An act that came in. -/
theorem open_act {H : Type} {enc : TypeId × Value → H} {W : World} {base : Nat} {sp : Nat → Bool} {held : Bool} {cs : Array Value} (hn : cs.size = 6) {d : DataW H} {ps : List MemPlace} (hd : DataW.Trod enc Tryd.prog W base sp held 31 (.agg cs) d ps) :
    ∃ (z : Int) (o : Nat) (tk a b : List UInt8) (n : Nat), cs = actC z o tk a b n ∧ o < 4294967296 ∧ n < 18446744073709551616 := by
  obtain ⟨fuel, hf⟩ := hd
  have h2 : Tryd.prog.cellsOf 3 = 1 := by kernel_rfl
  have h3 : Tryd.prog.cellsOf 28 = 1 := by kernel_rfl
  have h4 : Tryd.prog.cellsOf 9 = 1 := by kernel_rfl
  have h5 : Tryd.prog.cellsOf 29 = 1 := by kernel_rfl
  obtain ⟨l⟩ := cs
  obtain ⟨c0, c1, c2, c3, c4, c5, rfl⟩ := list6 (cs := l) (by simpa using hn)
  obtain ⟨y0, y1, y2, y3, y4, y5, n, g0, g1, g2, g3, g4, g5⟩ := trod_struct6p Tryd.underlying31 hf
  simp only [h2, h3, h4, h5, Value.cells, List.drop_zero, List.take_succ_cons, List.take_zero, List.drop_succ_cons] at g0 g1 g2 g3 g4 g5
  obtain ⟨a0, e0, _, w0⟩ := DataW.trod_int Tryd.underlying3 g0
  obtain ⟨a1, e1, _, w1⟩ := DataW.trod_int Tryd.underlying28 g1
  obtain ⟨s, e2, _, ws⟩ := DataW.trod_string Tryd.underlying9 g2
  obtain ⟨r, e3, _, wr⟩ := DataW.trod_string Tryd.underlying9 g3
  obtain ⟨q, e4, _, wq⟩ := DataW.trod_string Tryd.underlying9 g4
  obtain ⟨a5, e5, _, w5⟩ := DataW.trod_int Tryd.underlying29 g5
  simp only [List.cons.injEq, and_true] at e0 e1 e2 e3 e4 e5
  subst e0 e1 e2 e3 e4 e5
  simp [Lit.wf, IntKind.min, IntKind.max, IntKind.signed, IntKind.bits] at w1 w5
  obtain ⟨a1, rfl⟩ := Int.eq_ofNat_of_zero_le w1.1
  obtain ⟨a5, rfl⟩ := Int.eq_ofNat_of_zero_le w5.1
  refine ⟨a0, a1, s.data.toList, r.data.toList, q.data.toList, a5, ?_, by omega, by omega⟩
  simp only [actC, str_list]
end Go.Proofs.YtjfnaedcdmmigaaDoor

namespace Go.Proofs.YtjfnaedcdmmigaaDoor
open Go Go.RowKit
set_option linter.unusedSimpArgs false
set_option linter.unusedVariables false

theorem few_ok {ts : List Tkn} {hs : List Hol} (h : pFew ts hs) (h1 : ∀ t ∈ ts, t.num) (h2 : ∀ x ∈ hs, x.num) : ts.length ≤ 60 ∧ hs.length ≤ 100 ∧ (∀ t ∈ ts, t.ok) ∧ ∀ x ∈ hs, x.ok := by
  refine ⟨h.1.1, h.1.2, fun t ht => ?_, fun x hx => ?_⟩
  · obtain ⟨i, hi, he⟩ := List.getElem_of_mem ht
    have := h.2.1 i t hi (by rw [List.getElem?_eq_getElem hi, he])
    unfold fTok at this
    obtain ⟨a1, a2, a3, a4, a5, a6⟩ := h1 t ht
    exact ⟨a1, by omega, a2, a3, a4, a5, a6⟩
  · obtain ⟨i, hi, he⟩ := List.getElem_of_mem hx
    have := h.2.2 i x hi (by rw [List.getElem?_eq_getElem hi, he])
    unfold fHol at this
    obtain ⟨a1, a2⟩ := h2 x hx
    exact ⟨a1, by omega, by omega, a2⟩
theorem actSz (d : Int) (o : Nat) (tk a b : List UInt8) (n : Nat) : (Tryd.prog.info? 31).map (·.size) = some (actC d o tk a b n).size := by unfold actC; kernel_rfl
set_option maxHeartbeats 8000000 in
set_option maxRecDepth 1000000 in
theorem purseBack_walk (ts : List Tkn) (hs : List Hol) (h1 : ∀ t ∈ ts, t.num) (h2 : ∀ x ∈ hs, x.num) (v : Value) (d : Int) (o : Nat) (tk a b : List UInt8) (n : Nat) (ho : o < 4294967296) (hn : n < 18446744073709551616) (w : World) (hP : PM w v ts hs) (hU : UTabs w) :
    Calls Tryd.prog 5 #[v, .agg (actC d o tk a b n)] w fun e w' => e = .returned (.bool true) ∧ Below w.heap.size w w' := by
  obtain ⟨p1, c1, p2, c2, rfl, hT, hH⟩ := hP
  obtain ⟨q0, q1⟩ := al2 w (.cells #[.slice p1 ts.length c1, .slice p2 hs.length c2] 27) (.cells (actC d o tk a b n) 31)
  have b0 := bel2 w (.cells #[.slice p1 ts.length c1, .slice p2 hs.length c2] 27) (.cells (actC d o tk a b n) 31)
  have sX : ((w.alloc (.cells #[.slice p1 ts.length c1, .slice p2 hs.length c2] 27)).alloc (.cells (actC d o tk a b n) 31)).heap.size = w.heap.size + 1 + 1 := by simp
  have P0 : PM ((w.alloc (.cells #[.slice p1 ts.length c1, .slice p2 hs.length c2] 27)).alloc (.cells (actC d o tk a b n) 31)) (.agg #[.slice p1 ts.length c1, .slice p2 hs.length c2]) ts hs := ⟨p1, c1, p2, c2, rfl, hT.below b0, hH.below b0⟩
  have AS := actSz d o tk a b n
  obtain ⟨m1, hm1⟩ : ∃ m, ts.length = m := ⟨_, rfl⟩
  obtain ⟨m2, hm2⟩ : ∃ m, hs.length = m := ⟨_, rfl⟩
  rw [hm1, hm2] at q0 q1 b0 sX P0 ⊢
  obtain ⟨X, hX⟩ : ∃ X, (w.alloc (.cells #[.slice p1 m1 c1, .slice p2 m2 c2] 27)).alloc (.cells (actC d o tk a b n) 31) = X := ⟨_, rfl⟩
  have HX := hide hX
  rw [hX] at q0 q1 b0 sX P0
  have B0 := hide b0
  have SX := hide sX
  have PX : Hid (∀ W, Below X.heap.size X W → PM W (.agg #[.slice p1 m1 c1, .slice p2 m2 c2]) ts hs) := hide fun W hW => P0.below hW
  have QP : Hid (∀ W, Below X.heap.size X W → W.heap[w.heap.size]? = some (.cells #[.slice p1 m1 c1, .slice p2 m2 c2] 27 (0, 0))) := hide fun W hW => Below.at hW (by omega) q0
  have QA : Hid (∀ W, Below X.heap.size X W → W.heap[w.heap.size + 1]? = some (.cells (actC d o tk a b n) 31 (0, 0))) := hide fun W hW => Below.at hW (by omega) q1
  have CA : Hid (∀ W, Below X.heap.size X W → W.cell? ⟨w.heap.size + 1, 1, none⟩ = some (.int .u32 (o : Int)) ∧ W.cell? ⟨w.heap.size + 1, 2, none⟩ = some (.string (str tk)) ∧ W.cell? ⟨w.heap.size + 1, 3, none⟩ = some (.string (str a)) ∧ W.cell? ⟨w.heap.size + 1, 5, none⟩ = some (.int .u64 (n : Int))) := hide fun W hW => by
    have r := unhide QA W hW
    exact ⟨by rw [cell_of_row _ _ _ _ _ _ r]; rfl, by rw [cell_of_row _ _ _ _ _ _ r]; rfl, by rw [cell_of_row _ _ _ _ _ _ r]; rfl, by rw [cell_of_row _ _ _ _ _ _ r]; rfl⟩
  have UW : Hid (∀ W, Below X.heap.size X W → UTabs W) := hide fun W hW => (hU.below' b0).below' hW
  have CAW := hide fun W (hW : Below X.heap.size X W) => awake14_calls W (unhide UW W hW)
  have CFW := hide fun W (hW : Below X.heap.size X W) => few_calls ts hs _ W (unhide PX W hW)
  have CSH := hide fun W => short_calls d o tk a b n W
  have HM1 := hide hm1
  have HM2 := hide hm2
  have H1 := hide h1
  have H2 := hide h2
  have PS := hide fun v1 v2 => purSz v1 v2
  obtain ⟨AC, hAC⟩ : ∃ AC, actC d o tk a b n = AC := ⟨_, rfl⟩
  rw [hAC] at AS QA CSH HX
  rw [hAC]
  clear hT hH hU hX q0 q1 b0 sX P0 hm1 hm2 h1 h2 hAC
  go_enter Tryd.func5, Tryd.ntmps5
  go_upto_region 1 with fail
  change Code.wp _ _ _ _ ((w.alloc (.cells #[.slice p1 m1 c1, .slice p2 m2 c2] 27)).alloc (.cells AC 31))
  rw [unhide HX]
  go_wp2_with fail
  refine (unhide CAW X (Below.refl _ _)).mono ?_
  rintro e w1 ⟨rfl, b1⟩
  have S1 : Hid (Below X.heap.size X w1) := hide b1
  have k0 := unhide QP w1 b1
  clear b1 CAW
  go_wp2_with (refine wpList_load_row rfl 27 (.tmp 2) rfl w.heap.size rfl 27 _ (0, 0) _ k0 Tryd.underlying27 rfl (unhide PS _ _) ?_)
  clear k0
  refine (unhide CFW w1 (unhide S1)).mono ?_
  rintro e w2 ⟨⟨few, rfl, hfew⟩, b2⟩
  have S2 : Hid (Below X.heap.size X w2) := hide ((unhide S1).trans (b2.mono (unhide S1).size))
  clear b2 S1 CFW
  cases few with
  | false =>
    have F := hide ((unhide B0).trans ((unhide S2).mono (unhide B0).size))
    go_wp2_with (first | go_skip | fail)
    go_ret
    exact ⟨rfl, unhide F⟩
  | true =>
  obtain ⟨n1, n2, ok1, ok2⟩ := few_ok (hfew rfl) (unhide H1) (unhide H2)
  have r2 := unhide QA w2 (unhide S2)
  clear hfew H1 H2
  go_wp2_with (refine wpList_load_row_gd rfl 31 (.tmp 3) rfl (w.heap.size + 1) rfl 31 AC (0, 0) _ r2 Tryd.underlying31 rfl AS ?_)
  clear r2
  refine (unhide CSH w2).mono ?_
  rintro e w3 ⟨rfl, b3⟩
  have S3 : Hid (Below X.heap.size X w3) := hide ((unhide S2).trans (b3.mono (unhide S2).size))
  clear b3 S2 CSH
  obtain ⟨sh, hsh⟩ : ∃ sh, (decide (tk.length ≤ 200) && (decide (a.length ≤ 200) && decide (b.length ≤ 200))) = sh := ⟨_, rfl⟩
  rw [hsh]
  cases sh with
  | false =>
    have F := hide ((unhide B0).trans ((unhide S3).mono (unhide B0).size))
    clear hsh
    go_wp2_with (first | go_skip | fail)
    go_ret
    exact ⟨rfl, unhide F⟩
  | true =>
  have hl1 : tk.length ≤ 200 := by simp at hsh; omega
  have hl2 : a.length ≤ 200 := by simp at hsh; omega
  have k0 := unhide QP w3 (unhide S3)
  have CR := hide (pright_calls ts hs (by omega) (by omega) ok1 ok2 _ w3 (unhide PX w3 (unhide S3)) (unhide UW w3 (unhide S3)))
  clear hsh
  go_wp2_with (refine wpList_load_row_gd rfl 27 (.tmp 2) rfl w.heap.size rfl 27 _ (0, 0) _ k0 Tryd.underlying27 rfl (unhide PS _ _) ?_)
  clear k0
  refine (unhide CR).mono ?_
  rintro e w4 ⟨rfl, b4⟩
  have S4 : Hid (Below X.heap.size X w4) := hide ((unhide S3).trans (b4.mono (unhide S3).size))
  clear b4 S3 CR
  obtain ⟨rt, hrt⟩ : ∃ rt, pRt ts hs = rt := ⟨_, rfl⟩
  rw [hrt]
  cases rt with
  | false =>
    have F := hide ((unhide B0).trans ((unhide S4).mono (unhide B0).size))
    clear hrt
    go_wp2_with (first | go_skip | fail)
    go_ret
    exact ⟨rfl, unhide F⟩
  | true =>
  have hRT : rT ts = true := by unfold pRt at hrt; simp at hrt; exact hrt.2.1
  have hRH : rH ts hs = true := by unfold pRt at hrt; simp at hrt; exact hrt.2.2
  have heb := pHe_lt ok2 o tk a
  -- the calls of the two halves
  have CL := hide fun W (hW : Below X.heap.size X W) => lock_calls ts hs (by omega) (by omega) ok1 ok2 _ o tk a (by omega) (by omega) n hn W (unhide UW W hW) (unhide PX W hW)
  have CM := hide fun W (hW : Below X.heap.size X W) => mint_calls ts hs (by omega) (by omega) ok1 ok2 _ o tk a (by omega) (by omega) n hn W (unhide UW W hW) (unhide PX W hW)
  have LB : Hid ((pLock ts hs o tk a n).2.2 = 0 → ∃ (T : List Tkn) (Hh : List Hol) (U : List Tkn × List Hol × Nat), (pLock ts hs o tk a n).1 = T ∧ (pLock ts hs o tk a n).2.1 = Hh ∧ ((U.2.2 = 0 ∧ U.2.1 = hs) ∨ U.2.2 = 10 ∨ U.2.2 = 7) ∧ ∀ W v, Below X.heap.size X W → PM W v T Hh → Calls Tryd.prog 19 #[v, .int .u32 (o : Int), .string (str tk), .string (str a), .int .u64 (n : Int)] W fun e w' => (∃ v', e = .returned (.tuple #[v', .int .i64 (U.2.2 : Int)]) ∧ PO w' W.heap.size v' U.1 U.2.1) ∧ Below W.heap.size W w') := hide fun h => by
    obtain ⟨t, hk, hle, hlt, hL⟩ := lock_did h
    have hto := ok1 t (List.mem_of_find?_eq_some hk)
    refine ⟨_, _, pUnlock (pSetT ts { t with lk := t.lk + n }) (pWith hs o tk a (pHe hs o tk a - n)) o tk a n, rfl, rfl, lock_back hRT hRH ok2 hk hle heb _ rfl, fun W v hW hP => ?_⟩
    rw [hL] at hP
    have hlen := pWith_len hs o tk a (pHe hs o tk a - n)
    exact unlock_calls _ _ (by rw [pSetT_len]; omega) (by omega) (pSetT_ok ts { t with lk := t.lk + n } ok1 ⟨hto.1, hto.2.1, hto.2.2.1, hlt, hto.2.2.2.2.1, hto.2.2.2.2.2.1, hto.2.2.2.2.2.2⟩) (pWith_ok hs o tk a _ ok2 ho (by omega) (by omega) (by omega)) v o tk a (by omega) (by omega) n hn W (unhide UW W hW) hP
  have MB : Hid ((pMint ts hs o tk a n).2.2 = 0 → ∃ (T : List Tkn) (Hh : List Hol) (U : List Tkn × List Hol × Nat), (pMint ts hs o tk a n).1 = T ∧ (pMint ts hs o tk a n).2.1 = Hh ∧ ((U.2.2 = 0 ∧ U.2.1 = hs) ∨ U.2.2 = 10) ∧ ∀ W v, Below X.heap.size X W → PM W v T Hh → Calls Tryd.prog 21 #[v, .int .u32 (o : Int), .string (str tk), .string (str a), .int .u64 (n : Int)] W fun e w' => (∃ v', e = .returned (.tuple #[v', .int .i64 (U.2.2 : Int)]) ∧ PO w' W.heap.size v' U.1 U.2.1) ∧ Below W.heap.size W w') := hide fun h => by
    obtain ⟨t, hk, hlt, hle, hL⟩ := mint_did h
    have hto := ok1 t (List.mem_of_find?_eq_some hk)
    refine ⟨_, _, pBurn (pSetT ts { t with mi := t.mi + n }) (pWith hs o tk a (pHe hs o tk a + n)) o tk a n, rfl, rfl, mint_back hRH hk _ rfl, fun W v hW hP => ?_⟩
    rw [hL] at hP
    have hlen := pWith_len hs o tk a (pHe hs o tk a + n)
    exact burn_calls _ _ (by rw [pSetT_len]; omega) (by omega) (pSetT_ok ts { t with mi := t.mi + n } ok1 ⟨hto.1, hto.2.1, hto.2.2.1, hto.2.2.2.1, hto.2.2.2.2.1, hlt, hto.2.2.2.2.2.2⟩) (pWith_ok hs o tk a _ ok2 ho (by omega) (by omega) (by omega)) v o tk a (by omega) (by omega) n hn W (unhide UW W hW) hP
  have N2 := hide n2
  clear n1 n2 ok1 ok2 hl1 hl2 hrt hRT hRH heb hn ho
  obtain ⟨LL, hLL⟩ : ∃ L, pLock ts hs o tk a n = L := ⟨_, rfl⟩
  obtain ⟨MM, hMM⟩ : ∃ L, pMint ts hs o tk a n = L := ⟨_, rfl⟩
  rw [hLL] at CL LB
  rw [hMM] at CM MB
  obtain ⟨L1, L2, L3⟩ := LL
  obtain ⟨M1, M2, M3⟩ := MM
  clear hLL hMM
  have k0 := unhide QP w4 (unhide S4)
  obtain ⟨a1, a2, a3, a5⟩ := unhide CA w4 (unhide S4)
  go_wp2_with (refine wpList_load_row rfl 27 (.tmp 2) rfl w.heap.size rfl 27 _ (0, 0) _ k0 Tryd.underlying27 rfl (unhide PS _ _) ?_)
  clear k0 a1 a2 a3 a5
  refine (unhide CL w4 (unhide S4)).mono ?_
  rintro e w5 ⟨⟨v5, rfl, po⟩, b5⟩
  have pm := po.mem
  obtain ⟨x1, x2, rfl, one⟩ := po.parts
  have S5 : Hid (Below X.heap.size X w5) := hide ((unhide S4).trans (b5.mono (unhide S4).size))
  have PM5 := hide pm
  clear po b5 pm CL S4
  go_upto_region 7 with (refine wpList_store_newV rfl 27 (.tmp 6) (.tmp 40) rfl w5 #[.slice none 0 0, .slice none 0 0] _ #[x1, x2] rfl rfl (unhide PS _ _) rfl one ?_; intro w6 q6 b6 z6)
  have S6 : Hid (Below X.heap.size X w6) := hide ((unhide S5).trans (b6.mono (unhide S5).size))
  have PM6 := hide ((unhide PM5).below b6)
  have Q6 := hide q6
  clear q6 b6 z6 S5 PM5 one
  by_cases hL : L3 = 0
  · have dL : ((L3 : Int) == (0 : Int)) = true := by simp [hL]
    have dL2 : decide ((L3 : Int) = 0) = true := by simp [hL]
    obtain ⟨T, Hh, U, e1, e2, hcase, CUn⟩ := unhide LB hL
    have e1 : L1 = T := e1
    have e2 : L2 = Hh := e2
    subst e1; subst e2
    obtain ⟨U1, U2, U3⟩ := U
    have CU := hide CUn
    have HC := hide hcase
    have q6 := unhide Q6
    obtain ⟨a1, a2, a3, a5⟩ := unhide CA w6 (unhide S6)
    clear CUn hcase LB
    go_wp2_with (refine wpList_load_row rfl 27 (.tmp 6) rfl w5.heap.size rfl 27 _ (0, 0) _ q6 Tryd.underlying27 rfl (unhide PS _ _) ?_)
    clear q6 a1 a2 a3 a5
    refine (unhide CU w6 _ (unhide S6) (unhide PM6)).mono ?_
    rintro e w7 ⟨⟨v7, rfl, po⟩, b7⟩
    have pm := po.mem
    obtain ⟨y1, y2, rfl, one⟩ := po.parts
    have S7 : Hid (Below X.heap.size X w7) := hide ((unhide S6).trans (b7.mono (unhide S6).size))
    have PM7 := hide pm
    clear po b7 pm CU S6 PM6 Q6
    go_upto_region 9 with (refine wpList_store_newV rfl 27 (.tmp 8) (.tmp 55) rfl w7 #[.slice none 0 0, .slice none 0 0] _ #[y1, y2] rfl rfl (unhide PS _ _) rfl one ?_; intro w8 q8 b8 z8)
    have S8 : Hid (Below X.heap.size X w8) := hide ((unhide S7).trans (b8.mono (unhide S7).size))
    have PM8 := hide ((unhide PM7).below b8)
    have Q8 := hide q8
    clear q8 b8 z8 S7 PM7 one
    have KR : Hid (∀ d os, Below X.heap.size X (Sort.grow (redrawn w8 d) os)) := hide fun d os => (unhide S8).trans ((below_regrown w8 d os).mono (unhide S8).size)
    rcases unhide HC with ⟨hU3, hU2⟩ | hU3 | hU3
    · skip
      have hU3' : U3 = 0 := hU3
      have hU2' : hs = U2 := hU2.symm
      subst hU2'
      have dU : ((U3 : Int) == (0 : Int)) = true := by simp [hU3']
      have dU2 : decide ((U3 : Int) = 0) = true := by simp [hU3']
      have dU3 : ((U3 : Int) != (0 : Int)) = false := by simp [hU3']
      have kA := hide fun d os => Calls.regrown_of (w := w8) (d := d) (os := os) (holdOnly_calls _ _ y1 y2 _ ((unhide PM8).below (below_regrown w8 d os)))
      have kB := hide fun d os => Calls.regrown_of (w := w8) (d := d) (os := os) (holdOnly_calls _ _ (.slice p1 m1 c1) (.slice p2 m2 c2) _ (unhide PX _ (unhide KR d os)))
      have kS := hide fun d os => Calls.regrown_of (w := w8) (d := d) (os := os) (psame_calls [] _ (by simp) (by have := unhide N2; omega) _ _ _ (PM_only ((unhide PM8).below (below_regrown w8 d os))) (PM_only (unhide PX _ (unhide KR d os))))
      have R0 : Hid (∀ w', (∃ p : Regrown, w' = Sort.grow (redrawn w8 p.d) p.os) → w'.heap[w7.heap.size]? = some (.cells #[y1, y2] 27 (0, 0))) := hide fun w' ⟨p, hp⟩ => by rw [hp]; exact Below.at (below_regrown w8 p.d p.os) (Array.getElem?_eq_some_iff.1 (unhide Q8)).1 (unhide Q8)
      have R1 : Hid (∀ w', (∃ p : Regrown, w' = Sort.grow (redrawn w8 p.d) p.os) → w'.heap[w.heap.size]? = some (.cells #[.slice p1 m1 c1, .slice p2 m2 c2] 27 (0, 0))) := hide fun w' ⟨p, hp⟩ => by rw [hp]; exact unhide QP _ (unhide KR p.d p.os)
      clear PM8 Q8 HC hU3 hU2
      go_wp2_with fail
      refine wp_region_below mixed (by kernel_rfl) ?_
      iterate 4 quiet_step (fail)
      refine wpQuiet_load_row rfl 27 (.tmp 8) rfl w7.heap.size rfl 27 _ (0, 0) _ (unhide R0) Tryd.underlying27 rfl (unhide PS _ _) ?_
      quiet_step (exact unhide kA _ _)
      quiet_step (fail)
      refine wpQuiet_load_row rfl 27 (.tmp 2) rfl w.heap.size rfl 27 _ (0, 0) _ (unhide R1) Tryd.underlying27 rfl (unhide PS _ _) ?_
      quiet_step (exact unhide kB _ _)
      quiet_step (exact unhide kS _ _)
      iterate 5 quiet_step (fail)
      repeat (go_big_quiet_step (fail))
      refine wpQuiet_nil ?_
      intro wn bn
      clear kA kB kS R0 R1
      have SN : Hid (Below X.heap.size X wn) := hide ((unhide S8).trans (bn.mono (unhide S8).size))
      clear bn S8
      have k0 := unhide QP wn (unhide SN)
      obtain ⟨a1, a2, a3, a5⟩ := unhide CA wn (unhide SN)
      go_wp2_with (refine wpList_load_row rfl 27 (.tmp 2) rfl w.heap.size rfl 27 _ (0, 0) _ k0 Tryd.underlying27 rfl (unhide PS _ _) ?_)
      clear k0 a1 a2 a3 a5
      refine (unhide CM wn (unhide SN)).mono ?_
      rintro e u5 ⟨⟨v5, rfl, po⟩, b5⟩
      have pm := po.mem
      obtain ⟨x3, x4, rfl, one⟩ := po.parts
      have R5 : Hid (Below X.heap.size X u5) := hide ((unhide SN).trans (b5.mono (unhide SN).size))
      have PN5 := hide pm
      clear po b5 pm CM SN
      go_upto_region 12 with (refine wpList_store_newV rfl 27 (.tmp 10) (.tmp 92) rfl u5 #[.slice none 0 0, .slice none 0 0] _ #[x3, x4] rfl rfl (unhide PS _ _) rfl one ?_; intro u6 q6 b6 z6)
      have R6 : Hid (Below X.heap.size X u6) := hide ((unhide R5).trans (b6.mono (unhide R5).size))
      have PN6 := hide ((unhide PN5).below b6)
      have Q6 := hide q6
      clear q6 b6 z6 R5 PN5 one
      by_cases hM : M3 = 0
      · have dL : ((M3 : Int) == (0 : Int)) = true := by simp [hM]
        have dL2 : decide ((M3 : Int) = 0) = true := by simp [hM]
        obtain ⟨T, Hh, U, e1, e2, hcase, CUn⟩ := unhide MB hM
        have e1 : M1 = T := e1
        have e2 : M2 = Hh := e2
        subst e1; subst e2
        obtain ⟨V1, V2, V3⟩ := U
        have CU := hide CUn
        have HC := hide hcase
        have q6 := unhide Q6
        obtain ⟨a1, a2, a3, a5⟩ := unhide CA u6 (unhide R6)
        clear CUn hcase MB
        go_wp2_with (refine wpList_load_row rfl 27 (.tmp 10) rfl u5.heap.size rfl 27 _ (0, 0) _ q6 Tryd.underlying27 rfl (unhide PS _ _) ?_)
        clear q6 a1 a2 a3 a5
        refine (unhide CU u6 _ (unhide R6) (unhide PN6)).mono ?_
        rintro e u7 ⟨⟨v7, rfl, po⟩, b7⟩
        have pm := po.mem
        obtain ⟨y1, y2, rfl, one⟩ := po.parts
        have R7 : Hid (Below X.heap.size X u7) := hide ((unhide R6).trans (b7.mono (unhide R6).size))
        have PN7 := hide pm
        clear po b7 pm CU R6 PN6 Q6
        go_upto_region 14 with (refine wpList_store_newV rfl 27 (.tmp 12) (.tmp 107) rfl u7 #[.slice none 0 0, .slice none 0 0] _ #[y1, y2] rfl rfl (unhide PS _ _) rfl one ?_; intro u8 q8 b8 z8)
        have R8 : Hid (Below X.heap.size X u8) := hide ((unhide R7).trans (b8.mono (unhide R7).size))
        have PN8 := hide ((unhide PN7).below b8)
        have Q8 := hide q8
        clear q8 b8 z8 R7 PN7 one
        have KR : Hid (∀ d os, Below X.heap.size X (Sort.grow (redrawn u8 d) os)) := hide fun d os => (unhide R8).trans ((below_regrown u8 d os).mono (unhide R8).size)
        rcases unhide HC with ⟨hU3, hU2⟩ | hU3
        · skip
          have hU3' : V3 = 0 := hU3
          have hU2' : hs = V2 := hU2.symm
          subst hU2'
          have dU : ((V3 : Int) == (0 : Int)) = true := by simp [hU3']
          have dU2 : decide ((V3 : Int) = 0) = true := by simp [hU3']
          have dU3 : ((V3 : Int) != (0 : Int)) = false := by simp [hU3']
          have kA := hide fun d os => Calls.regrown_of (w := u8) (d := d) (os := os) (holdOnly_calls _ _ y1 y2 _ ((unhide PN8).below (below_regrown u8 d os)))
          have kB := hide fun d os => Calls.regrown_of (w := u8) (d := d) (os := os) (holdOnly_calls _ _ (.slice p1 m1 c1) (.slice p2 m2 c2) _ (unhide PX _ (unhide KR d os)))
          have kS := hide fun d os => Calls.regrown_of (w := u8) (d := d) (os := os) (psame_calls [] _ (by simp) (by have := unhide N2; omega) _ _ _ (PM_only ((unhide PN8).below (below_regrown u8 d os))) (PM_only (unhide PX _ (unhide KR d os))))
          have R0 : Hid (∀ w', (∃ p : Regrown, w' = Sort.grow (redrawn u8 p.d) p.os) → w'.heap[u7.heap.size]? = some (.cells #[y1, y2] 27 (0, 0))) := hide fun w' ⟨p, hp⟩ => by rw [hp]; exact Below.at (below_regrown u8 p.d p.os) (Array.getElem?_eq_some_iff.1 (unhide Q8)).1 (unhide Q8)
          have R1 : Hid (∀ w', (∃ p : Regrown, w' = Sort.grow (redrawn u8 p.d) p.os) → w'.heap[w.heap.size]? = some (.cells #[.slice p1 m1 c1, .slice p2 m2 c2] 27 (0, 0))) := hide fun w' ⟨p, hp⟩ => by rw [hp]; exact unhide QP _ (unhide KR p.d p.os)
          clear PN8 Q8 HC hU3 hU2
          go_wp2_with fail
          refine wp_region_below mixed (by kernel_rfl) ?_
          iterate 4 quiet_step (fail)
          refine wpQuiet_load_row rfl 27 (.tmp 12) rfl u7.heap.size rfl 27 _ (0, 0) _ (unhide R0) Tryd.underlying27 rfl (unhide PS _ _) ?_
          quiet_step (exact unhide kA _ _)
          quiet_step (fail)
          refine wpQuiet_load_row rfl 27 (.tmp 2) rfl w.heap.size rfl 27 _ (0, 0) _ (unhide R1) Tryd.underlying27 rfl (unhide PS _ _) ?_
          quiet_step (exact unhide kB _ _)
          quiet_step (exact unhide kS _ _)
          iterate 5 quiet_step (fail)
          repeat (go_big_quiet_step (fail))
          refine wpQuiet_nil ?_
          intro wn bn
          clear kA kB kS R0 R1
          have SE : Hid (Below X.heap.size X wn) := hide ((unhide R8).trans (bn.mono (unhide R8).size))
          clear bn
          have F := hide ((unhide B0).trans ((unhide SE).mono (unhide B0).size))
          go_wp2
          go_ret
          exact ⟨rfl, unhide F⟩
        · skip
          have hU3' : V3 = 10 := hU3
          clear PN8 Q8 HC hU3
          go_wp2_with fail
          refine wp_region_below mixed (by kernel_rfl) ?_
          iterate 2 quiet_step (fail)
          repeat (go_big_quiet_step (fail))
          refine wpQuiet_nil ?_
          intro wn bn
          have SE : Hid (Below X.heap.size X wn) := hide ((unhide R8).trans (bn.mono (unhide R8).size))
          clear bn
          have F := hide ((unhide B0).trans ((unhide SE).mono (unhide B0).size))
          go_wp2
          go_ret
          exact ⟨rfl, unhide F⟩
      · have dL : ((M3 : Int) == (0 : Int)) = false := by simp [hM]
        have dL2 : decide ((M3 : Int) = 0) = false := by simp [hM]
        have F := hide ((unhide B0).trans ((unhide R6).mono (unhide B0).size))
        go_wp2
        go_ret
        exact ⟨rfl, unhide F⟩
    · skip
      have hU3' : U3 = 10 := hU3
      clear PM8 Q8 HC hU3
      go_wp2_with fail
      refine wp_region_below mixed (by kernel_rfl) ?_
      iterate 2 quiet_step (fail)
      repeat (go_big_quiet_step (fail))
      refine wpQuiet_nil ?_
      intro wn bn
      have SN : Hid (Below X.heap.size X wn) := hide ((unhide S8).trans (bn.mono (unhide S8).size))
      clear bn S8
      have k0 := unhide QP wn (unhide SN)
      obtain ⟨a1, a2, a3, a5⟩ := unhide CA wn (unhide SN)
      go_wp2_with (refine wpList_load_row rfl 27 (.tmp 2) rfl w.heap.size rfl 27 _ (0, 0) _ k0 Tryd.underlying27 rfl (unhide PS _ _) ?_)
      clear k0 a1 a2 a3 a5
      refine (unhide CM wn (unhide SN)).mono ?_
      rintro e u5 ⟨⟨v5, rfl, po⟩, b5⟩
      have pm := po.mem
      obtain ⟨x3, x4, rfl, one⟩ := po.parts
      have R5 : Hid (Below X.heap.size X u5) := hide ((unhide SN).trans (b5.mono (unhide SN).size))
      have PN5 := hide pm
      clear po b5 pm CM SN
      go_upto_region 12 with (refine wpList_store_newV rfl 27 (.tmp 10) (.tmp 92) rfl u5 #[.slice none 0 0, .slice none 0 0] _ #[x3, x4] rfl rfl (unhide PS _ _) rfl one ?_; intro u6 q6 b6 z6)
      have R6 : Hid (Below X.heap.size X u6) := hide ((unhide R5).trans (b6.mono (unhide R5).size))
      have PN6 := hide ((unhide PN5).below b6)
      have Q6 := hide q6
      clear q6 b6 z6 R5 PN5 one
      by_cases hM : M3 = 0
      · have dL : ((M3 : Int) == (0 : Int)) = true := by simp [hM]
        have dL2 : decide ((M3 : Int) = 0) = true := by simp [hM]
        obtain ⟨T, Hh, U, e1, e2, hcase, CUn⟩ := unhide MB hM
        have e1 : M1 = T := e1
        have e2 : M2 = Hh := e2
        subst e1; subst e2
        obtain ⟨V1, V2, V3⟩ := U
        have CU := hide CUn
        have HC := hide hcase
        have q6 := unhide Q6
        obtain ⟨a1, a2, a3, a5⟩ := unhide CA u6 (unhide R6)
        clear CUn hcase MB
        go_wp2_with (refine wpList_load_row rfl 27 (.tmp 10) rfl u5.heap.size rfl 27 _ (0, 0) _ q6 Tryd.underlying27 rfl (unhide PS _ _) ?_)
        clear q6 a1 a2 a3 a5
        refine (unhide CU u6 _ (unhide R6) (unhide PN6)).mono ?_
        rintro e u7 ⟨⟨v7, rfl, po⟩, b7⟩
        have pm := po.mem
        obtain ⟨y1, y2, rfl, one⟩ := po.parts
        have R7 : Hid (Below X.heap.size X u7) := hide ((unhide R6).trans (b7.mono (unhide R6).size))
        have PN7 := hide pm
        clear po b7 pm CU R6 PN6 Q6
        go_upto_region 14 with (refine wpList_store_newV rfl 27 (.tmp 12) (.tmp 107) rfl u7 #[.slice none 0 0, .slice none 0 0] _ #[y1, y2] rfl rfl (unhide PS _ _) rfl one ?_; intro u8 q8 b8 z8)
        have R8 : Hid (Below X.heap.size X u8) := hide ((unhide R7).trans (b8.mono (unhide R7).size))
        have PN8 := hide ((unhide PN7).below b8)
        have Q8 := hide q8
        clear q8 b8 z8 R7 PN7 one
        have KR : Hid (∀ d os, Below X.heap.size X (Sort.grow (redrawn u8 d) os)) := hide fun d os => (unhide R8).trans ((below_regrown u8 d os).mono (unhide R8).size)
        rcases unhide HC with ⟨hU3, hU2⟩ | hU3
        · skip
          have hU3' : V3 = 0 := hU3
          have hU2' : hs = V2 := hU2.symm
          subst hU2'
          have dU : ((V3 : Int) == (0 : Int)) = true := by simp [hU3']
          have dU2 : decide ((V3 : Int) = 0) = true := by simp [hU3']
          have dU3 : ((V3 : Int) != (0 : Int)) = false := by simp [hU3']
          have kA := hide fun d os => Calls.regrown_of (w := u8) (d := d) (os := os) (holdOnly_calls _ _ y1 y2 _ ((unhide PN8).below (below_regrown u8 d os)))
          have kB := hide fun d os => Calls.regrown_of (w := u8) (d := d) (os := os) (holdOnly_calls _ _ (.slice p1 m1 c1) (.slice p2 m2 c2) _ (unhide PX _ (unhide KR d os)))
          have kS := hide fun d os => Calls.regrown_of (w := u8) (d := d) (os := os) (psame_calls [] _ (by simp) (by have := unhide N2; omega) _ _ _ (PM_only ((unhide PN8).below (below_regrown u8 d os))) (PM_only (unhide PX _ (unhide KR d os))))
          have R0 : Hid (∀ w', (∃ p : Regrown, w' = Sort.grow (redrawn u8 p.d) p.os) → w'.heap[u7.heap.size]? = some (.cells #[y1, y2] 27 (0, 0))) := hide fun w' ⟨p, hp⟩ => by rw [hp]; exact Below.at (below_regrown u8 p.d p.os) (Array.getElem?_eq_some_iff.1 (unhide Q8)).1 (unhide Q8)
          have R1 : Hid (∀ w', (∃ p : Regrown, w' = Sort.grow (redrawn u8 p.d) p.os) → w'.heap[w.heap.size]? = some (.cells #[.slice p1 m1 c1, .slice p2 m2 c2] 27 (0, 0))) := hide fun w' ⟨p, hp⟩ => by rw [hp]; exact unhide QP _ (unhide KR p.d p.os)
          clear PN8 Q8 HC hU3 hU2
          go_wp2_with fail
          refine wp_region_below mixed (by kernel_rfl) ?_
          iterate 4 quiet_step (fail)
          refine wpQuiet_load_row rfl 27 (.tmp 12) rfl u7.heap.size rfl 27 _ (0, 0) _ (unhide R0) Tryd.underlying27 rfl (unhide PS _ _) ?_
          quiet_step (exact unhide kA _ _)
          quiet_step (fail)
          refine wpQuiet_load_row rfl 27 (.tmp 2) rfl w.heap.size rfl 27 _ (0, 0) _ (unhide R1) Tryd.underlying27 rfl (unhide PS _ _) ?_
          quiet_step (exact unhide kB _ _)
          quiet_step (exact unhide kS _ _)
          iterate 5 quiet_step (fail)
          repeat (go_big_quiet_step (fail))
          refine wpQuiet_nil ?_
          intro wn bn
          clear kA kB kS R0 R1
          have SE : Hid (Below X.heap.size X wn) := hide ((unhide R8).trans (bn.mono (unhide R8).size))
          clear bn
          have F := hide ((unhide B0).trans ((unhide SE).mono (unhide B0).size))
          go_wp2
          go_ret
          exact ⟨rfl, unhide F⟩
        · skip
          have hU3' : V3 = 10 := hU3
          clear PN8 Q8 HC hU3
          go_wp2_with fail
          refine wp_region_below mixed (by kernel_rfl) ?_
          iterate 2 quiet_step (fail)
          repeat (go_big_quiet_step (fail))
          refine wpQuiet_nil ?_
          intro wn bn
          have SE : Hid (Below X.heap.size X wn) := hide ((unhide R8).trans (bn.mono (unhide R8).size))
          clear bn
          have F := hide ((unhide B0).trans ((unhide SE).mono (unhide B0).size))
          go_wp2
          go_ret
          exact ⟨rfl, unhide F⟩
      · have dL : ((M3 : Int) == (0 : Int)) = false := by simp [hM]
        have dL2 : decide ((M3 : Int) = 0) = false := by simp [hM]
        have F := hide ((unhide B0).trans ((unhide R6).mono (unhide B0).size))
        go_wp2
        go_ret
        exact ⟨rfl, unhide F⟩
    · skip
      have hU3' : U3 = 7 := hU3
      clear PM8 Q8 HC hU3
      go_wp2_with fail
      refine wp_region_below mixed (by kernel_rfl) ?_
      iterate 2 quiet_step (fail)
      repeat (go_big_quiet_step (fail))
      refine wpQuiet_nil ?_
      intro wn bn
      have SN : Hid (Below X.heap.size X wn) := hide ((unhide S8).trans (bn.mono (unhide S8).size))
      clear bn S8
      have k0 := unhide QP wn (unhide SN)
      obtain ⟨a1, a2, a3, a5⟩ := unhide CA wn (unhide SN)
      go_wp2_with (refine wpList_load_row rfl 27 (.tmp 2) rfl w.heap.size rfl 27 _ (0, 0) _ k0 Tryd.underlying27 rfl (unhide PS _ _) ?_)
      clear k0 a1 a2 a3 a5
      refine (unhide CM wn (unhide SN)).mono ?_
      rintro e u5 ⟨⟨v5, rfl, po⟩, b5⟩
      have pm := po.mem
      obtain ⟨x3, x4, rfl, one⟩ := po.parts
      have R5 : Hid (Below X.heap.size X u5) := hide ((unhide SN).trans (b5.mono (unhide SN).size))
      have PN5 := hide pm
      clear po b5 pm CM SN
      go_upto_region 12 with (refine wpList_store_newV rfl 27 (.tmp 10) (.tmp 92) rfl u5 #[.slice none 0 0, .slice none 0 0] _ #[x3, x4] rfl rfl (unhide PS _ _) rfl one ?_; intro u6 q6 b6 z6)
      have R6 : Hid (Below X.heap.size X u6) := hide ((unhide R5).trans (b6.mono (unhide R5).size))
      have PN6 := hide ((unhide PN5).below b6)
      have Q6 := hide q6
      clear q6 b6 z6 R5 PN5 one
      by_cases hM : M3 = 0
      · have dL : ((M3 : Int) == (0 : Int)) = true := by simp [hM]
        have dL2 : decide ((M3 : Int) = 0) = true := by simp [hM]
        obtain ⟨T, Hh, U, e1, e2, hcase, CUn⟩ := unhide MB hM
        have e1 : M1 = T := e1
        have e2 : M2 = Hh := e2
        subst e1; subst e2
        obtain ⟨V1, V2, V3⟩ := U
        have CU := hide CUn
        have HC := hide hcase
        have q6 := unhide Q6
        obtain ⟨a1, a2, a3, a5⟩ := unhide CA u6 (unhide R6)
        clear CUn hcase MB
        go_wp2_with (refine wpList_load_row rfl 27 (.tmp 10) rfl u5.heap.size rfl 27 _ (0, 0) _ q6 Tryd.underlying27 rfl (unhide PS _ _) ?_)
        clear q6 a1 a2 a3 a5
        refine (unhide CU u6 _ (unhide R6) (unhide PN6)).mono ?_
        rintro e u7 ⟨⟨v7, rfl, po⟩, b7⟩
        have pm := po.mem
        obtain ⟨y1, y2, rfl, one⟩ := po.parts
        have R7 : Hid (Below X.heap.size X u7) := hide ((unhide R6).trans (b7.mono (unhide R6).size))
        have PN7 := hide pm
        clear po b7 pm CU R6 PN6 Q6
        go_upto_region 14 with (refine wpList_store_newV rfl 27 (.tmp 12) (.tmp 107) rfl u7 #[.slice none 0 0, .slice none 0 0] _ #[y1, y2] rfl rfl (unhide PS _ _) rfl one ?_; intro u8 q8 b8 z8)
        have R8 : Hid (Below X.heap.size X u8) := hide ((unhide R7).trans (b8.mono (unhide R7).size))
        have PN8 := hide ((unhide PN7).below b8)
        have Q8 := hide q8
        clear q8 b8 z8 R7 PN7 one
        have KR : Hid (∀ d os, Below X.heap.size X (Sort.grow (redrawn u8 d) os)) := hide fun d os => (unhide R8).trans ((below_regrown u8 d os).mono (unhide R8).size)
        rcases unhide HC with ⟨hU3, hU2⟩ | hU3
        · skip
          have hU3' : V3 = 0 := hU3
          have hU2' : hs = V2 := hU2.symm
          subst hU2'
          have dU : ((V3 : Int) == (0 : Int)) = true := by simp [hU3']
          have dU2 : decide ((V3 : Int) = 0) = true := by simp [hU3']
          have dU3 : ((V3 : Int) != (0 : Int)) = false := by simp [hU3']
          have kA := hide fun d os => Calls.regrown_of (w := u8) (d := d) (os := os) (holdOnly_calls _ _ y1 y2 _ ((unhide PN8).below (below_regrown u8 d os)))
          have kB := hide fun d os => Calls.regrown_of (w := u8) (d := d) (os := os) (holdOnly_calls _ _ (.slice p1 m1 c1) (.slice p2 m2 c2) _ (unhide PX _ (unhide KR d os)))
          have kS := hide fun d os => Calls.regrown_of (w := u8) (d := d) (os := os) (psame_calls [] _ (by simp) (by have := unhide N2; omega) _ _ _ (PM_only ((unhide PN8).below (below_regrown u8 d os))) (PM_only (unhide PX _ (unhide KR d os))))
          have R0 : Hid (∀ w', (∃ p : Regrown, w' = Sort.grow (redrawn u8 p.d) p.os) → w'.heap[u7.heap.size]? = some (.cells #[y1, y2] 27 (0, 0))) := hide fun w' ⟨p, hp⟩ => by rw [hp]; exact Below.at (below_regrown u8 p.d p.os) (Array.getElem?_eq_some_iff.1 (unhide Q8)).1 (unhide Q8)
          have R1 : Hid (∀ w', (∃ p : Regrown, w' = Sort.grow (redrawn u8 p.d) p.os) → w'.heap[w.heap.size]? = some (.cells #[.slice p1 m1 c1, .slice p2 m2 c2] 27 (0, 0))) := hide fun w' ⟨p, hp⟩ => by rw [hp]; exact unhide QP _ (unhide KR p.d p.os)
          clear PN8 Q8 HC hU3 hU2
          go_wp2_with fail
          refine wp_region_below mixed (by kernel_rfl) ?_
          iterate 4 quiet_step (fail)
          refine wpQuiet_load_row rfl 27 (.tmp 12) rfl u7.heap.size rfl 27 _ (0, 0) _ (unhide R0) Tryd.underlying27 rfl (unhide PS _ _) ?_
          quiet_step (exact unhide kA _ _)
          quiet_step (fail)
          refine wpQuiet_load_row rfl 27 (.tmp 2) rfl w.heap.size rfl 27 _ (0, 0) _ (unhide R1) Tryd.underlying27 rfl (unhide PS _ _) ?_
          quiet_step (exact unhide kB _ _)
          quiet_step (exact unhide kS _ _)
          iterate 5 quiet_step (fail)
          repeat (go_big_quiet_step (fail))
          refine wpQuiet_nil ?_
          intro wn bn
          clear kA kB kS R0 R1
          have SE : Hid (Below X.heap.size X wn) := hide ((unhide R8).trans (bn.mono (unhide R8).size))
          clear bn
          have F := hide ((unhide B0).trans ((unhide SE).mono (unhide B0).size))
          go_wp2
          go_ret
          exact ⟨rfl, unhide F⟩
        · skip
          have hU3' : V3 = 10 := hU3
          clear PN8 Q8 HC hU3
          go_wp2_with fail
          refine wp_region_below mixed (by kernel_rfl) ?_
          iterate 2 quiet_step (fail)
          repeat (go_big_quiet_step (fail))
          refine wpQuiet_nil ?_
          intro wn bn
          have SE : Hid (Below X.heap.size X wn) := hide ((unhide R8).trans (bn.mono (unhide R8).size))
          clear bn
          have F := hide ((unhide B0).trans ((unhide SE).mono (unhide B0).size))
          go_wp2
          go_ret
          exact ⟨rfl, unhide F⟩
      · have dL : ((M3 : Int) == (0 : Int)) = false := by simp [hM]
        have dL2 : decide ((M3 : Int) = 0) = false := by simp [hM]
        have F := hide ((unhide B0).trans ((unhide R6).mono (unhide B0).size))
        go_wp2
        go_ret
        exact ⟨rfl, unhide F⟩
  · have dL : ((L3 : Int) == (0 : Int)) = false := by simp [hL]
    have dL2 : decide ((L3 : Int) = 0) = false := by simp [hL]
    have k0 := unhide QP w6 (unhide S6)
    obtain ⟨a1, a2, a3, a5⟩ := unhide CA w6 (unhide S6)
    go_wp2_with (refine wpList_load_row rfl 27 (.tmp 2) rfl w.heap.size rfl 27 _ (0, 0) _ k0 Tryd.underlying27 rfl (unhide PS _ _) ?_)
    clear k0 a1 a2 a3 a5
    refine (unhide CM w6 (unhide S6)).mono ?_
    rintro e u5 ⟨⟨v5, rfl, po⟩, b5⟩
    have pm := po.mem
    obtain ⟨x3, x4, rfl, one⟩ := po.parts
    have R5 : Hid (Below X.heap.size X u5) := hide ((unhide S6).trans (b5.mono (unhide S6).size))
    have PN5 := hide pm
    clear po b5 pm CM S6
    go_upto_region 12 with (refine wpList_store_newV rfl 27 (.tmp 10) (.tmp 92) rfl u5 #[.slice none 0 0, .slice none 0 0] _ #[x3, x4] rfl rfl (unhide PS _ _) rfl one ?_; intro u6 q6 b6 z6)
    have R6 : Hid (Below X.heap.size X u6) := hide ((unhide R5).trans (b6.mono (unhide R5).size))
    have PN6 := hide ((unhide PN5).below b6)
    have Q6 := hide q6
    clear q6 b6 z6 R5 PN5 one
    by_cases hM : M3 = 0
    · have dL : ((M3 : Int) == (0 : Int)) = true := by simp [hM]
      have dL2 : decide ((M3 : Int) = 0) = true := by simp [hM]
      obtain ⟨T, Hh, U, e1, e2, hcase, CUn⟩ := unhide MB hM
      have e1 : M1 = T := e1
      have e2 : M2 = Hh := e2
      subst e1; subst e2
      obtain ⟨V1, V2, V3⟩ := U
      have CU := hide CUn
      have HC := hide hcase
      have q6 := unhide Q6
      obtain ⟨a1, a2, a3, a5⟩ := unhide CA u6 (unhide R6)
      clear CUn hcase MB
      go_wp2_with (refine wpList_load_row rfl 27 (.tmp 10) rfl u5.heap.size rfl 27 _ (0, 0) _ q6 Tryd.underlying27 rfl (unhide PS _ _) ?_)
      clear q6 a1 a2 a3 a5
      refine (unhide CU u6 _ (unhide R6) (unhide PN6)).mono ?_
      rintro e u7 ⟨⟨v7, rfl, po⟩, b7⟩
      have pm := po.mem
      obtain ⟨y1, y2, rfl, one⟩ := po.parts
      have R7 : Hid (Below X.heap.size X u7) := hide ((unhide R6).trans (b7.mono (unhide R6).size))
      have PN7 := hide pm
      clear po b7 pm CU R6 PN6 Q6
      go_upto_region 14 with (refine wpList_store_newV rfl 27 (.tmp 12) (.tmp 107) rfl u7 #[.slice none 0 0, .slice none 0 0] _ #[y1, y2] rfl rfl (unhide PS _ _) rfl one ?_; intro u8 q8 b8 z8)
      have R8 : Hid (Below X.heap.size X u8) := hide ((unhide R7).trans (b8.mono (unhide R7).size))
      have PN8 := hide ((unhide PN7).below b8)
      have Q8 := hide q8
      clear q8 b8 z8 R7 PN7 one
      have KR : Hid (∀ d os, Below X.heap.size X (Sort.grow (redrawn u8 d) os)) := hide fun d os => (unhide R8).trans ((below_regrown u8 d os).mono (unhide R8).size)
      rcases unhide HC with ⟨hU3, hU2⟩ | hU3
      · skip
        have hU3' : V3 = 0 := hU3
        have hU2' : hs = V2 := hU2.symm
        subst hU2'
        have dU : ((V3 : Int) == (0 : Int)) = true := by simp [hU3']
        have dU2 : decide ((V3 : Int) = 0) = true := by simp [hU3']
        have dU3 : ((V3 : Int) != (0 : Int)) = false := by simp [hU3']
        have kA := hide fun d os => Calls.regrown_of (w := u8) (d := d) (os := os) (holdOnly_calls _ _ y1 y2 _ ((unhide PN8).below (below_regrown u8 d os)))
        have kB := hide fun d os => Calls.regrown_of (w := u8) (d := d) (os := os) (holdOnly_calls _ _ (.slice p1 m1 c1) (.slice p2 m2 c2) _ (unhide PX _ (unhide KR d os)))
        have kS := hide fun d os => Calls.regrown_of (w := u8) (d := d) (os := os) (psame_calls [] _ (by simp) (by have := unhide N2; omega) _ _ _ (PM_only ((unhide PN8).below (below_regrown u8 d os))) (PM_only (unhide PX _ (unhide KR d os))))
        have R0 : Hid (∀ w', (∃ p : Regrown, w' = Sort.grow (redrawn u8 p.d) p.os) → w'.heap[u7.heap.size]? = some (.cells #[y1, y2] 27 (0, 0))) := hide fun w' ⟨p, hp⟩ => by rw [hp]; exact Below.at (below_regrown u8 p.d p.os) (Array.getElem?_eq_some_iff.1 (unhide Q8)).1 (unhide Q8)
        have R1 : Hid (∀ w', (∃ p : Regrown, w' = Sort.grow (redrawn u8 p.d) p.os) → w'.heap[w.heap.size]? = some (.cells #[.slice p1 m1 c1, .slice p2 m2 c2] 27 (0, 0))) := hide fun w' ⟨p, hp⟩ => by rw [hp]; exact unhide QP _ (unhide KR p.d p.os)
        clear PN8 Q8 HC hU3 hU2
        go_wp2_with fail
        refine wp_region_below mixed (by kernel_rfl) ?_
        iterate 4 quiet_step (fail)
        refine wpQuiet_load_row rfl 27 (.tmp 12) rfl u7.heap.size rfl 27 _ (0, 0) _ (unhide R0) Tryd.underlying27 rfl (unhide PS _ _) ?_
        quiet_step (exact unhide kA _ _)
        quiet_step (fail)
        refine wpQuiet_load_row rfl 27 (.tmp 2) rfl w.heap.size rfl 27 _ (0, 0) _ (unhide R1) Tryd.underlying27 rfl (unhide PS _ _) ?_
        quiet_step (exact unhide kB _ _)
        quiet_step (exact unhide kS _ _)
        iterate 5 quiet_step (fail)
        repeat (go_big_quiet_step (fail))
        refine wpQuiet_nil ?_
        intro wn bn
        clear kA kB kS R0 R1
        have SE : Hid (Below X.heap.size X wn) := hide ((unhide R8).trans (bn.mono (unhide R8).size))
        clear bn
        have F := hide ((unhide B0).trans ((unhide SE).mono (unhide B0).size))
        go_wp2
        go_ret
        exact ⟨rfl, unhide F⟩
      · skip
        have hU3' : V3 = 10 := hU3
        clear PN8 Q8 HC hU3
        go_wp2_with fail
        refine wp_region_below mixed (by kernel_rfl) ?_
        iterate 2 quiet_step (fail)
        repeat (go_big_quiet_step (fail))
        refine wpQuiet_nil ?_
        intro wn bn
        have SE : Hid (Below X.heap.size X wn) := hide ((unhide R8).trans (bn.mono (unhide R8).size))
        clear bn
        have F := hide ((unhide B0).trans ((unhide SE).mono (unhide B0).size))
        go_wp2
        go_ret
        exact ⟨rfl, unhide F⟩
    · have dL : ((M3 : Int) == (0 : Int)) = false := by simp [hM]
      have dL2 : decide ((M3 : Int) = 0) = false := by simp [hM]
      have F := hide ((unhide B0).trans ((unhide R6).mono (unhide B0).size))
      go_wp2
      go_ret
      exact ⟨rfl, unhide F⟩
end Go.Proofs.YtjfnaedcdmmigaaDoor

namespace Go.Proofs.YtjfnaedcdmmigaaDoor
open Go.ChangeShapes Go.WideShapes Go.ChangeAt Go.RowKit Go.Shelf

theorem u8Extra : U8Extra Tryd.prog Tryd.lays197_ren := ⟨by kernel_rfl, by kernel_rfl, by kernel_rfl, by kernel_rfl, by kernel_rfl, by kernel_rfl, by kernel_rfl⟩
set_option maxRecDepth 100000 in
theorem first_data : Rows.laid_unicode_utf8_first = Lib.firstData := by kernel_rfl
theorem accept_data : (Rows.laid_unicode_utf8_acceptRanges : DataW Unit) = Lib.acceptData := by kernel_rfl
theorem utabs_of {W : World} {laid : List (String × DataW Unit)} (h : laidMet Tryd.prog laid W) (h1 : ("unicode/utf8.first", Rows.laid_unicode_utf8_first) ∈ laid) (h2 : ("unicode/utf8.acceptRanges", Rows.laid_unicode_utf8_acceptRanges) ∈ laid) : UTabs W := by
  have r1 := Lib.laidMet.reads h h1
  have r2 := Lib.laidMet.reads h h2
  rw [first_data] at r1
  rw [accept_data] at r2
  exact utf8Tabs_of_reads { Tryd.lays197 with } u8Extra r1 r2
/-- A variable's cells turned. -/
def layCellsN (cs : Array Value) : Obj → Obj
  | .cells _ t frozen => .cells cs t frozen
  | o => o
/-- A world for the witness: the settled one, the two tables holding what their initialisers lay. -/
noncomputable def nameWorldU (os : Os) : World :=
  { World.holding Tryd.prog os ⟨#[], #[], []⟩ with heap := ((World.holding Tryd.prog os ⟨#[], #[], []⟩).heap.modify 0 (layCellsN (Lib.firstTab.map fun z => Value.int .u8 z).toArray)).modify 1 (layCellsN ((List.range 16).flatMap fun i => [Value.int .u8 (Lib.accLo i), Value.int .u8 (Lib.accHi i)]).toArray) }
end Go.Proofs.YtjfnaedcdmmigaaDoor
