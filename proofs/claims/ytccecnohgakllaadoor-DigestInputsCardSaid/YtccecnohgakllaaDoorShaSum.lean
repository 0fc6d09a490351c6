/-
  WHAT sha.Sum RETURNS.
-/
import Derived.Test.YtccecnohgakllaaDoorShaEnd
namespace Go.Proofs.YtccecnohgakllaaDoor
open Go.RowKit
set_option linter.unusedSimpArgs false
set_option linter.unusedVariables false

/-- The digest of parts. -/
def pSum (parts : List (List UInt8)) : List UInt8 := pEnd (parts.foldl pAdd pBegin)
theorem pEnd_length (t : St) : (pEnd t).length = 32 := S8.bytes_length _
theorem pSum_length (parts : List (List UInt8)) : (pSum parts).length = 32 := pEnd_length _
/-- Strings in a row of memory. -/
def StrsAt (w : World) (a : Option Addr) (parts : List (List UInt8)) : Prop :=
  parts = [] ∨ ∃ b o, a = some ⟨b, o, none⟩ ∧ b < w.heap.size ∧ ∀ j, j < parts.length → w.cell? ⟨b, o + j, none⟩ = some (.string (str (parts.getD j [])))
theorem StrsAt.below {w w' : World} {B : Nat} {a : Option Addr} {parts : List (List UInt8)} (h : StrsAt w a parts) (hb : Below B w w') (hB : w.heap.size ≤ B) : StrsAt w' a parts := by
  rcases h with h | ⟨b, o, rfl, hlt, hc⟩
  · exact .inl h
  · exact .inr ⟨b, o, rfl, Nat.lt_of_lt_of_le hlt hb.size, fun j hj => by rw [hb.cell (p := ⟨b, o + j, none⟩) (by show b < B; omega)]; exact hc j hj⟩
theorem foldl_take_succ {α β : Type} (f : β → α → β) (b : β) (l : List α) (k : Nat) (d : α) (h : k < l.length) : (l.take (k + 1)).foldl f b = f ((l.take k).foldl f b) (l.getD k d) := by
  rw [take_snoc' l k d h, List.foldl_append]; rfl
theorem add_rest (t : St) (l : List UInt8) : (pAdd t l).rest.length < 64 := (pThrough_rest_le _ _).1
theorem fold_rest (parts : List (List UInt8)) : (parts.foldl pAdd pBegin).rest.length < 64 := by
  rcases List.eq_nil_or_concat parts with rfl | ⟨l, x, rfl⟩
  · decide
  · rw [List.concat_eq_append, List.foldl_append]; exact add_rest _ _

set_option maxHeartbeats 1000000 in
set_option maxRecDepth 100000 in
theorem sum_some (parts : List (List UInt8)) (hp : ∀ p ∈ parts, p.length ≤ 70368744177664) (hn : parts.length ≤ 70368744177664) (b o : Nat) (cap : Nat) (w : World) (hlt : b < w.heap.size) (hc : ∀ j, j < parts.length → w.cell? ⟨b, o + j, none⟩ = some (.string (str (parts.getD j [])))) (tabs : Tabs w) :
    Calls Tryd.prog 19 #[.slice (some ⟨b, o, none⟩) parts.length cap] w fun e w' => e = .returned (.agg (bc (pSum parts))) ∧ Below w.heap.size w w' := by
  go_enter Tryd.func19, Tryd.ntmps19
  go_wp2_with fail
  refine (begin_calls _ (tabs.below' ((Below.refl _ _).alloc (Nat.le_refl _) _))).mono ?_
  rintro en w1 ⟨rfl, hb1⟩
  have hb0 : Below w.heap.size w w1 := ((Below.refl _ _).alloc (Nat.le_refl _) _).trans (hb1.mono (by simp))
  have z1 : w.heap.size < w1.heap.size := by have := hb1.size; simp at this; omega
  have q0 : w1.heap[w.heap.size]? = some (.cells (bc (List.replicate 32 0)) 24 (0, 0)) := Below.at hb1 (by simp) (al1 _ _)
  clear hb1
  have hiS : ∀ st : St, (Tryd.prog.info? 62).map (·.size) = some st.cells.size := fun st => by show _ = some 10; kernel_rfl
  have hi0 := hiS pBegin
  have ho0 := St.oneCell pBegin
  have HiS := hide hiS
  clear hiS
  go_wp2_with (refine wpList_store_row rfl 62 (.tmp 3) (.tmp 6) rfl w1.heap.size _ rfl rfl 62 _ (al1 _ _) hi0 rfl ho0 ?_)
  have q1 := setRow_heap _ _ _ pBegin.cells _ _ (al1 w1 (.cells (St.mk ⟨0, 0, 0, 0, 0, 0, 0, 0⟩ [] 0).cells 62))
  have q0' := (setRow_other (w1.alloc (.cells (St.mk ⟨0, 0, 0, 0, 0, 0, 0, 0⟩ [] 0).cells 62)) w1.heap.size w.heap.size pBegin.cells (by omega)).trans ((Below.heap_alloc w1 _ _ z1).trans q0)
  have hb2 := below_setRow (hb0.alloc (by omega) (.cells (St.mk ⟨0, 0, 0, 0, 0, 0, 0, 0⟩ [] 0).cells 62)) (Nat.le_of_lt z1) pBegin.cells
  have HQ1 := hide q1
  have HQ0 := hide q0'
  have HB2 := hide hb2
  clear hb0 q0 q1 q0' hb2 hi0 ho0
  go_loopw [9] (fun i wr => ∃ k : Nat, k ≤ parts.length ∧ i = .int .i64 k ∧ Below w.heap.size w wr ∧ w1.heap.size < wr.heap.size ∧ wr.heap[w1.heap.size]? = some (.cells ((parts.take k).foldl pAdd pBegin).cells 62 (0, 0)) ∧ wr.heap[w.heap.size]? = some (.cells (bc (List.replicate 32 0)) 24 (0, 0))) (fun i _ => parts.length - (intOf i).toNat)
  case atStart => exact ⟨0, by omega, rfl, unhide HB2, by simp, unhide HQ1, unhide HQ0⟩
  case round =>
    clear HB2 HQ1 HQ0
    obtain ⟨k, hk, rfl, hb, hz, q1, q0⟩ := hrel
    generalize hBs : w1.heap.size = Bs at *
    clear hBs
    by_cases hlk : k < parts.length
    · have hdk : decide ((k : Int) < (parts.length : Int)) = true := by simp; omega
      have bk : (0 : Int) ≤ k ∧ (k : Int) < (parts.length : Int) := by omega
      have c : wr.cell? ⟨b, o + k, none⟩ = some (.string (str (parts.getD k []))) := by rw [hb.cell (p := ⟨b, o + k, none⟩) hlt]; exact hc k hlk
      have hfold := foldl_take_succ pAdd pBegin parts k [] hlk
      have hpk : (parts.getD k []).length ≤ 70368744177664 := by
        rw [List.getD_eq_getElem?_getD, List.getElem?_eq_getElem hlk]; exact hp _ (List.getElem_mem _)
      have hrest := fold_rest (parts.take k)
      generalize hpt : parts.getD k [] = pt at c hfold hpk
      generalize hst : (parts.take k).foldl pAdd pBegin = st at q1 hfold hrest
      have tb := tabs.below hb (Nat.le_refl _)
      have hi1 := unhide HiS st
      have Hfold := hide hfold
      clear hpt hst hfold
      go_wp2_with (first
        | (refine wpList_load_row rfl 62 (.tmp 3) rfl Bs rfl 62 _ (0, 0) _ q1 Tryd.underlying62 rfl hi1 ?_)
        | (go_at_call 28; fail))
      refine (add_calls st pt (by omega) _ tb).mono ?_
      rintro en w3 ⟨rfl, hb3⟩
      have q1' := Below.at hb3 hz q1
      have q0' := Below.at hb3 (by omega) q0
      have z3 := hb3.size
      have hi2 := unhide HiS (pAdd st pt)
      have ho2 := St.oneCell (pAdd st pt)
      go_wp2_with (refine wpList_store_row rfl 62 (.tmp 3) (.tmp 15) rfl Bs _ rfl rfl 62 _ q1' hi2 rfl ho2 ?_)
      go_roundw
      case rel =>
        refine ⟨k + 1, by omega, by go_num, below_setRow (hb.trans (hb3.mono (by omega))) (by omega) _, by rw [setRow_size]; omega, ?_, ?_⟩
        · rw [unhide Hfold]; exact setRow_heap _ _ _ _ _ _ q1'
        · rw [setRow_other _ _ _ _ (by omega)]; exact q0'
      case measure => simp [intOf]; omega
    · have hdk : decide ((k : Int) < (parts.length : Int)) = false := by simp; omega
      rw [List.take_of_length_le (by omega)] at q1
      have tb := tabs.below hb (Nat.le_refl _)
      have hrest := fold_rest parts
      generalize hst : (parts).foldl pAdd pBegin = st at q1 hrest
      have Hst := hide hst
      have hi1 := unhide HiS st
      clear hst
      go_wp2_with (refine wpList_load_row rfl 62 (.tmp 3) rfl Bs rfl 62 _ (0, 0) _ q1 Tryd.underlying62 rfl hi1 ?_)
      refine (end_calls st (by omega) _ tb).mono ?_
      rintro en w3 ⟨rfl, hb3⟩
      have q0' := Below.at hb3 (by omega) q0
      have hil : (Tryd.prog.info? 24).map (·.size) = some (bc (pEnd st)).size := by rw [bc_size, pEnd_length]; kernel_rfl
      have ho1 := bc_oneCell (pEnd st)
      have hsz : (bc (List.replicate 32 (0 : UInt8))).size = (bc (pEnd st)).size := by rw [bc_size, bc_size, pEnd_length]; rfl
      go_wp2_with (refine wpList_store_row rfl 24 (.tmp 2) (.tmp 18) rfl w.heap.size _ rfl rfl 24 _ q0' hil hsz ho1 ?_)
      exact bodyPost_ret (results_cell_row rfl _ _ w.heap.size _ _ _ _ rfl (setRow_heap _ _ _ _ _ _ q0') Tryd.underlying24 rfl hil) rfl ⟨by rw [pSum, unhide Hst], below_setRow (hb.trans (hb3.mono (by omega))) (Nat.le_refl _) _⟩

set_option maxHeartbeats 1000000 in
set_option maxRecDepth 100000 in
theorem sum_none (a : Option Addr) (cap : Nat) (w : World) (tabs : Tabs w) :
    Calls Tryd.prog 19 #[.slice a 0 cap] w fun e w' => e = .returned (.agg (bc (pSum []))) ∧ Below w.heap.size w w' := by
  go_enter Tryd.func19, Tryd.ntmps19
  go_wp2_with fail
  refine (begin_calls _ (tabs.below' ((Below.refl _ _).alloc (Nat.le_refl _) _))).mono ?_
  rintro en w1 ⟨rfl, hb1⟩
  have hb0 : Below w.heap.size w w1 := ((Below.refl _ _).alloc (Nat.le_refl _) _).trans (hb1.mono (by simp))
  have z1 : w.heap.size < w1.heap.size := by have := hb1.size; simp at this; omega
  have q0 : w1.heap[w.heap.size]? = some (.cells (bc (List.replicate 32 0)) 24 (0, 0)) := Below.at hb1 (by simp) (al1 _ _)
  clear hb1
  have hiS : ∀ st : St, (Tryd.prog.info? 62).map (·.size) = some st.cells.size := fun st => by show _ = some 10; kernel_rfl
  have hi0 := hiS pBegin
  have ho0 := St.oneCell pBegin
  have HiS := hide hiS
  clear hiS
  go_wp2_with (refine wpList_store_row rfl 62 (.tmp 3) (.tmp 6) rfl w1.heap.size _ rfl rfl 62 _ (al1 _ _) hi0 rfl ho0 ?_)
  have q1 := setRow_heap _ _ _ pBegin.cells _ _ (al1 w1 (.cells (St.mk ⟨0, 0, 0, 0, 0, 0, 0, 0⟩ [] 0).cells 62))
  have q0' := (setRow_other (w1.alloc (.cells (St.mk ⟨0, 0, 0, 0, 0, 0, 0, 0⟩ [] 0).cells 62)) w1.heap.size w.heap.size pBegin.cells (by omega)).trans ((Below.heap_alloc w1 _ _ z1).trans q0)
  have hb2 := below_setRow (hb0.alloc (by omega) (.cells (St.mk ⟨0, 0, 0, 0, 0, 0, 0, 0⟩ [] 0).cells 62)) (Nat.le_of_lt z1) pBegin.cells
  have HQ1 := hide q1
  have HQ0 := hide q0'
  have HB2 := hide hb2
  clear hb0 q0 q1 q0' hb2 hi0 ho0
  go_loopw [9] (fun i wr => ∃ k : Nat, k ≤ 0 ∧ i = .int .i64 k ∧ Below w.heap.size w wr ∧ w1.heap.size < wr.heap.size ∧ wr.heap[w1.heap.size]? = some (.cells ((([] : List (List UInt8)).take k).foldl pAdd pBegin).cells 62 (0, 0)) ∧ wr.heap[w.heap.size]? = some (.cells (bc (List.replicate 32 0)) 24 (0, 0))) (fun i _ => 0 - (intOf i).toNat)
  case atStart => exact ⟨0, by omega, rfl, unhide HB2, by simp, unhide HQ1, unhide HQ0⟩
  case round =>
    clear HB2 HQ1 HQ0
    obtain ⟨k, hk, rfl, hb, hz, q1, q0⟩ := hrel
    generalize hBs : w1.heap.size = Bs at *
    clear hBs
    rw [List.take_nil] at q1
    have hdk : decide ((k : Int) < 0) = false := by simp
    have tb := tabs.below hb (Nat.le_refl _)
    have hrest := fold_rest []
    generalize hst : ([] : List (List UInt8)).foldl pAdd pBegin = st at q1 hrest
    have Hst := hide hst
    have hi1 := unhide HiS st
    clear hst
    go_wp2_with (refine wpList_load_row rfl 62 (.tmp 3) rfl Bs rfl 62 _ (0, 0) _ q1 Tryd.underlying62 rfl hi1 ?_)
    refine (end_calls st (by omega) _ tb).mono ?_
    rintro en w3 ⟨rfl, hb3⟩
    have q0' := Below.at hb3 (by omega) q0
    have hil : (Tryd.prog.info? 24).map (·.size) = some (bc (pEnd st)).size := by rw [bc_size, pEnd_length]; kernel_rfl
    have ho1 := bc_oneCell (pEnd st)
    have hsz : (bc (List.replicate 32 (0 : UInt8))).size = (bc (pEnd st)).size := by rw [bc_size, bc_size, pEnd_length]; rfl
    go_wp2_with (refine wpList_store_row rfl 24 (.tmp 2) (.tmp 18) rfl w.heap.size _ rfl rfl 24 _ q0' hil hsz ho1 ?_)
    exact bodyPost_ret (results_cell_row rfl _ _ w.heap.size _ _ _ _ rfl (setRow_heap _ _ _ _ _ _ q0') Tryd.underlying24 rfl hil) rfl ⟨by rw [pSum, unhide Hst], below_setRow (hb.trans (hb3.mono (by omega))) (Nat.le_refl _) _⟩

theorem sum_calls (parts : List (List UInt8)) (hp : ∀ p ∈ parts, p.length ≤ 70368744177664) (hn : parts.length ≤ 70368744177664) (a : Option Addr) (cap : Nat) (w : World) (hs : StrsAt w a parts) (tabs : Tabs w) :
    Calls Tryd.prog 19 #[.slice a parts.length cap] w fun e w' => e = .returned (.agg (bc (pSum parts))) ∧ Below w.heap.size w w' := by
  rcases hs with rfl | ⟨b, o, rfl, hlt, hc⟩
  · exact sum_none a cap w tabs
  · exact sum_some parts hp hn b o cap w hlt hc tabs
end Go.Proofs.YtccecnohgakllaaDoor
