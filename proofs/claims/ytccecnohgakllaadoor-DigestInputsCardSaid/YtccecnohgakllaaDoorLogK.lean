/-
  A LOG IN MEMORY: keys of its two maps; what is kept beside it.
-/
import Derived.Maps.OwnSet
import Derived.DeepKeys4
import Derived.Test.YtccecnohgakllaaDoorDigIn
import Derived.Test.YtccecnohgakllaaDoorKitEq
namespace Go.Proofs.YtccecnohgakllaaDoor
open Go Go.RowKit Go.Maps
set_option linter.unusedSimpArgs false
set_option linter.unusedVariables false

theorem kLaidOut : laidOutB Tryd.prog = true := by kernel_rfl
theorem rowOfD : (24 : TypeId) < Tryd.prog.types.size := of_decide_eq_true (by kernel_rfl)
theorem wideD : (match Tryd.prog.underlying 24 with | some (.array _ _) | some (.struct _) => true | _ => false) = true := by rw [Tryd.underlying24]
set_option maxRecDepth 100000 in
theorem lawD : Keyed Tryd.prog 24 := Keyed.of_law (deep_law_laid kLaidOut (m := 2) (by omega) rowOfD (by kernel_rfl) wideD)
theorem lawS : Keyed Tryd.prog 9 := string_keyed Tryd.underlying9
/-- What the elements of a log's maps are is never asked. -/
def R0 (_ : Value) : Option (DataW Unit × List MemPlace) := some (.agg [], [])
abbrev u0 : DataW Unit := .agg []
theorem keyOf_text (s : List UInt8) (hs : s.length ≤ maxLen) : keyOf Tryd.prog 9 (.string (str s)) = some (.string s) := by
  have := WideMaps.keyOf_string_mk (P := Tryd.prog) Tryd.underlying9 (s := str s) (by rw [str_size]; exact hs)
  rw [str_toList] at this
  exact this
/-- The data of an array of integers, whatever the depth. -/
theorem keyLits_intsK {P : Program} (t e : TypeId) (n D : Nat) (k : IntKind) (hu : P.underlying t = some (.array n e)) (he : P.underlying e = some (.int k)) (hce : P.cellsOf e = 1) (hct : P.cellsOf t = n)
    (zs : List Int) (hl : zs.length = n) (hw : ∀ z ∈ zs, (Lit.int k z).wf = true) : ∃ la, P.keyLits (D + 2) t (zs.map (Value.int k)) = some la := by
  unfold Program.keyLits
  simp only [hu]
  rw [if_pos (by simp [hl, hct])]
  rw [mapM_some _ (fun i => [Lit.int k (zs.getD i 0)]) _ (fun i hi => ?_)]
  · exact ⟨_, rfl⟩
  · have hi' : i < zs.length := by rw [hl]; exact List.mem_range.1 hi
    rw [hce, Nat.mul_one, List.drop_eq_getElem_cons (by simpa using hi')]
    unfold Program.keyLits
    simp only [he]
    have hz : (Lit.int k zs[i]).wf = true := hw _ (List.getElem_mem _)
    simp [hz, hi']
theorem keyOf_dig (d : List UInt8) (hd : d.length = 32) : ∃ l, keyOf Tryd.prog 24 (.agg (bc d)) = some l := by
  have hf : (Value.agg (bc d)).formed Tryd.prog 24 = true := by simp only [Value.formed, Tryd.underlying24, bc_size, hd]; kernel_rfl
  have hk : Tryd.prog.keyType 24 = true := by kernel_rfl
  obtain ⟨la, hla⟩ := keyLits_intsK (P := Tryd.prog) 24 5 32 (Tryd.prog.types.size - 1) .u8 Tryd.underlying24 Tryd.underlying5 (by kernel_rfl) (by kernel_rfl) (d.map fun b => (b.toNat : Int)) (by simpa using hd) (fun z hz => by
    obtain ⟨b, _, rfl⟩ := List.mem_map.1 hz
    have := b.toNat_lt
    simp [Lit.wf, IntKind.min, IntKind.max, IntKind.signed, IntKind.bits]; omega)
  have hts : Tryd.prog.types.size - 1 + 2 = Tryd.prog.types.size + 1 := by
    have h1 : 1 ≤ Tryd.prog.types.size := Nat.lt_of_le_of_lt (Nat.zero_le _) rowOfD
    generalize Tryd.prog.types.size = z at *
    omega
  rw [hts] at hla
  refine ⟨.string (keyBytes la), ?_⟩
  unfold keyOf
  simp only [Tryd.underlying24]
  rw [if_pos (by rw [hk, hf]; rfl)]
  have e : (Value.agg (bc d)).cells.toList = (d.map fun b => (b.toNat : Int)).map (Value.int .u8) := by
    show (bc d).toList = _
    simp [bc, Lib.byteCells]
  rw [e, hla]; rfl
noncomputable def dKey (d : List UInt8) : Lit := (keyOf Tryd.prog 24 (.agg (bc d))).getD (.bool false)
theorem dKey_is (d : List UInt8) (hd : d.length = 32) : keyOf Tryd.prog 24 (.agg (bc d)) = some (dKey d) := by
  obtain ⟨l, hl⟩ := keyOf_dig d hd
  unfold dKey; rw [hl]; rfl
theorem bc_injK {l m : List UInt8} (h : bc l = bc m) : l = m := by
  unfold bc Lib.byteCells at h
  have h2 := congrArg Array.toList h
  simp only at h2
  refine List.map_inj_right ?_ |>.1 h2
  intro a b hab
  injection hab with _ hab
  exact UInt8.toNat.inj (by exact_mod_cast hab)
set_option maxRecDepth 100000 in
theorem dKey_inj (d e : List UInt8) (hd : d.length = 32) (he : e.length = 32) (h : dKey d = dKey e) : d = e := by
  have h1 := dKey_is d hd
  have h2 := dKey_is e he
  rw [← h] at h2
  have := lawD.inj h1 h2
  injection this with this
  exact bc_injK this
/-- What is kept beside a log: all blocks but its own and its maps'. -/
structure But (b : Nat) (ms : Option (Nat × Nat)) (w w' : World) : Prop where
  os : w'.os = w.os
  tape : w'.tape = w.tape
  output : w'.output = w.output
  size : w.heap.size ≤ w'.heap.size
  block : ∀ k, k < w.heap.size → k ≠ b → (∀ m, ms = some m → k ≠ m.1 ∧ k ≠ m.2) → w'.heap[k]? = w.heap[k]?
theorem But.of_below {b : Nat} {ms : Option (Nat × Nat)} {w w' : World} (h : Below w.heap.size w w') : But b ms w w' := ⟨h.os, h.tape, h.output, h.size, fun k hk _ _ => h.block k hk⟩
theorem But.trans {b : Nat} {ms ms' : Option (Nat × Nat)} {w w' w'' : World} (h : But b ms w w') (h' : But b ms' w' w'') (hm : ms' = ms ∨ (ms = none ∧ ∀ m, ms' = some m → w.heap.size ≤ m.1 ∧ w.heap.size ≤ m.2)) : But b ms w w'' := by
  refine ⟨h'.os.trans h.os, h'.tape.trans h.tape, h'.output.trans h.output, Nat.le_trans h.size h'.size, fun k hk hb hms => ?_⟩
  refine (h'.block k (Nat.lt_of_lt_of_le hk h.size) hb fun m hm' => ?_).trans (h.block k hk hb hms)
  rcases hm with rfl | ⟨rfl, hn⟩
  · exact hms m hm'
  · have := hn m hm'; omega
/-- A log of inputs. -/
def LogAt (w : World) (b : Nat) (ms : Option (Nat × Nat)) (ins : List (List UInt8)) : Prop :=
  match ms with
  | none => ins = [] ∧ w.heap[b]? = some (.cells #[.map none, .map none] 50 (0, 0))
  | some (m1, m2) => w.heap[b]? = some (.cells #[.map (some m1), .map (some m2)] 50 (0, 0)) ∧ m1 ≠ m2 ∧ b ≠ m1 ∧ b ≠ m2 ∧
      w.ownsMap Tryd.prog 9 R0 m1 ins.length (setOf u0 (ins.map Lit.string)) ∧ w.ownsMap Tryd.prog 24 R0 m2 ins.length (setOf u0 (ins.map fun s => dKey (pSum [s])))
end Go.Proofs.YtccecnohgakllaaDoor
