/-
  == OF A KEPT TREE WITH ITSELF.
-/
import Derived.Test.YtcmfahibdkflaaaDoorTreeK
namespace Go.Proofs.YtcmfahibdkflaaaDoor
open Go Go.RowKit
set_option linter.unusedSimpArgs false
set_option linter.unusedVariables false

theorem branches_lits (L : List UInt8) (hL : L.length = 1024) : ∃ la, Tryd.prog.keyLits 3 25 (Lib.byteCells L) = some la := by
  have hc : Tryd.prog.cellsOf 24 = 32 := by kernel_rfl
  have hct : Tryd.prog.cellsOf 25 = 1024 := by kernel_rfl
  unfold Program.keyLits
  simp only [Tryd.underlying25]
  rw [if_pos (by rw [Lib.byteCells_length, hL, hct])]
  rw [mapM_some _ (fun i => ((chk L i).map fun b => (b.toNat : Int)).map (Lit.int .u8)) _ (fun i hi => ?_)]
  · exact ⟨_, rfl⟩
  · have hi' : i < 32 := List.mem_range.1 hi
    have e : ((Lib.byteCells L).drop (i * Tryd.prog.cellsOf 24)).take (Tryd.prog.cellsOf 24) = (bc (chk L i)).toList := by
      rw [hc]; unfold chk bc Lib.byteCells; simp [List.map_take, List.map_drop]
    rw [e]
    exact dig_lits (chk L i) (chk_length L hL i hi')
theorem tree_lits (n : Nat) (hn : n < 4294967296) (L : List UInt8) (hL : L.length = 1024) : ∃ la, Tryd.prog.keyLits 4 27 (tr n L).toList = some la := by
  obtain ⟨lb, hb⟩ := branches_lits L hL
  have h1 : Tryd.prog.cellsOf 22 = 1 := by kernel_rfl
  have h2 : Tryd.prog.cellsOf 25 = 1024 := by kernel_rfl
  have h3 : Tryd.prog.cellsOf 27 = 1025 := by kernel_rfl
  have hcount : Tryd.prog.keyLits 3 22 [.int .u32 (n : Int)] = some [.int .u32 (n : Int)] := by
    unfold Program.keyLits
    simp only [Tryd.underlying22]
    rw [if_pos ⟨trivial, by simp [Lit.wf, IntKind.min, IntKind.max, IntKind.signed, IntKind.bits]; omega⟩]
  unfold Program.keyLits
  simp only [Tryd.underlying27]
  rw [if_pos ⟨by rw [h3]; simp [tr, Lib.byteCells_length, hL], by kernel_rfl⟩]
  have e2 : ((tr n L).toList.drop 1).take (Tryd.prog.cellsOf 25) = Lib.byteCells L := by
    rw [h2]; simp [tr]; exact List.take_of_length_le (by rw [Lib.byteCells_length, hL]; exact Nat.le_refl _)
  have e1 : ((tr n L).toList.drop 0).take (Tryd.prog.cellsOf 22) = [.int .u32 (n : Int)] := by rw [h1]; simp [tr]
  simp only [List.mapM_cons, List.mapM_nil, e1, e2, hcount, hb]
  exact ⟨_, rfl⟩
theorem tree_eql (n : Nat) (hn : n < 4294967296) (L : List UInt8) (hL : L.length = 1024) (w : World) : (binOp .eql 27 (.agg (tr n L)) (.agg (tr n L))).run Tryd.prog w = .ok (.bool true) w := by
  obtain ⟨la, hla⟩ := tree_lits n hn L hL
  refine eql_refl 27 4 4 (by omega) (by kernel_rfl) _ ?_ la hla w
  simp only [Value.formed, Tryd.underlying27, tr_size, hL]; kernel_rfl
end Go.Proofs.YtcmfahibdkflaaaDoor
