/-
  IN WHICH PARTS A TEXT IS ADDED MAKES NO DIFFERENCE. Plain lemmas; equality of states.
-/
import Derived.Test.YtfobcchiakjhgaaDoorShaLaw
namespace Go.Proofs.YtfobcchiakjhgaaDoor
open Go.RowKit
set_option linter.unusedSimpArgs false
set_option linter.unusedVariables false

theorem pThrough_append (s : S8) (l m : List UInt8) : pThrough s (l ++ m) = pThrough (pThrough s l).1 ((pThrough s l).2 ++ m) := by
  generalize hn : l.length = n
  induction n using Nat.strongRecOn generalizing s l with
  | _ n ih =>
    by_cases h : 64 ≤ l.length
    · rw [pThrough_step s l h, pThrough_step s (l ++ m) (by simp; omega)]
      rw [List.take_append_of_le_length h, List.drop_append_of_le_length h]
      exact ih (l.drop 64).length (by simp; omega) _ _ rfl
    · rw [pThrough_end s l (by omega)]
theorem pAdd_pAdd (t : St) (l m : List UInt8) : pAdd (pAdd t l) m = pAdd t (l ++ m) := by
  have h := pThrough_append t.s (t.rest ++ l) m
  rw [List.append_assoc] at h
  simp only [pAdd]
  rw [h]
  congr 1
  simp only [add64, List.length_append]
  rw [BitVec.add_assoc, BitVec.ofNat_add]
theorem pAdd_nil (t : St) (h : t.rest.length < 64) : pAdd t [] = t := by
  obtain ⟨s, rest, count⟩ := t
  simp only [pAdd, List.append_nil]
  rw [pThrough_end s rest h]
  simp [add64]
theorem fold_flatten (parts : List (List UInt8)) : ∀ t : St, t.rest.length < 64 → parts.foldl pAdd t = pAdd t parts.flatten := by
  induction parts with
  | nil => intro t h; simp [pAdd_nil t h]
  | cons p l ih =>
    intro t h
    rw [List.foldl_cons, ih _ (add_rest t p), pAdd_pAdd, List.flatten_cons]
theorem pSum_flatten (parts : List (List UInt8)) : pSum parts = pSum [parts.flatten] := by
  have h1 := fold_flatten parts pBegin (by decide)
  have h2 := fold_flatten [parts.flatten] pBegin (by decide)
  simp only [List.flatten_singleton] at h2
  simp only [pSum]
  rw [h1, h2]

theorem state_eql (st : St) (h : st.rest.length ≤ maxLen) (w : World) : (binOp .eql 37 (.agg st.cells) (.agg st.cells)).run Tryd.prog w = .ok (.bool true) w := by
  obtain ⟨la, hla⟩ := keyLits_ints (P := Tryd.prog) 23 22 8 .u32 Tryd.underlying23 Tryd.underlying22 (by kernel_rfl) (by kernel_rfl) (st.s.list.map fun b => (b.toNat : Int)) (by simp [S8.list_length]) (fun z hz => by
    obtain ⟨b, _, rfl⟩ := List.mem_map.1 hz
    have := b.isLt
    simp [Lit.wf, IntKind.min, IntKind.max, IntKind.signed, IntKind.bits]; omega)
  have h8 : Tryd.prog.cellsOf 23 = 8 := by kernel_rfl
  have h9 : Tryd.prog.cellsOf 9 = 1 := by kernel_rfl
  have h35 : Tryd.prog.cellsOf 35 = 1 := by kernel_rfl
  have h37 : Tryd.prog.cellsOf 37 = 10 := by kernel_rfl
  have hc : (Lit.int .u64 (st.count.toNat : Int)).wf = true := by
    have := st.count.isLt
    simp [Lit.wf, IntKind.min, IntKind.max, IntKind.signed, IntKind.bits]; omega
  have k0 : Tryd.prog.keyLits 2 23 ((st.cells.toList.drop 0).take 8) = some la := by rw [← hla]; rfl
  have k1 : Tryd.prog.keyLits 2 9 ((st.cells.toList.drop 8).take 1) = some [.string (str st.rest).data.toList] := by
    show Tryd.prog.keyLits 2 9 [.string (str st.rest)] = _
    unfold Program.keyLits
    simp only [Tryd.underlying9]
    rw [if_pos (by rw [str_size]; exact h)]
  have k2 : Tryd.prog.keyLits 2 35 ((st.cells.toList.drop 9).take 1) = some [.int .u64 (st.count.toNat : Int)] := by
    show Tryd.prog.keyLits 2 35 [.int .u64 (st.count.toNat : Int)] = _
    unfold Program.keyLits
    simp only [Tryd.underlying35]
    simp [hc]
  have hk : ∃ l, Tryd.prog.keyLits 3 37 st.cells.toList = some l := by
    unfold Program.keyLits
    simp only [Tryd.underlying37]
    rw [if_pos ⟨by rw [h37]; rfl, by decide +kernel⟩]
    rw [mapM_some _ (fun f => if f.offset = 0 then la else if f.offset = 8 then [.string (str st.rest).data.toList] else [.int .u64 (st.count.toNat : Int)]) _ (fun f hf => ?_)]
    · exact ⟨_, rfl⟩
    · simp only [List.mem_cons, List.not_mem_nil, or_false] at hf
      rcases hf with rfl | rfl | rfl
      · simpa [h8] using k0
      · simpa [h9] using k1
      · simpa [h35] using k2
  obtain ⟨l, hl⟩ := hk
  refine eql_refl 37 3 3 (by omega) (by kernel_rfl) _ ?_ l hl w
  simp only [Value.formed, Tryd.underlying37, h37]; rfl
end Go.Proofs.YtfobcchiakjhgaaDoor
