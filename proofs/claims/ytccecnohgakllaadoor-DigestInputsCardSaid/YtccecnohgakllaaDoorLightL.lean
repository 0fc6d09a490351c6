/-
  WHAT THE LAW'S light RETURNS OF TWO ASKS.
-/
import Derived.Test.YtccecnohgakllaaDoorAskL
import Derived.Test.YtccecnohgakllaaDoorRowApp
namespace Go.Proofs.YtccecnohgakllaaDoor
open Go Go.RowKit
set_option linter.unusedSimpArgs false
set_option linter.unusedVariables false

structure AskD where
  dom : Nat
  p : Option Addr
  c : Nat
  parts : List (List UInt8)
  two : Bool
  A : List UInt8
  B : List UInt8
def AskD.cells (q : AskD) : Array Value := askc q.dom q.p q.parts.length q.c q.two q.A q.B
structure AskD.Good (q : AskD) (w : World) : Prop where
  hA : q.A.length = 32
  hB : q.B.length = 32
  dom : q.dom < 256
  n : q.parts.length ≤ maxLen
  len : ∀ p ∈ q.parts, p.length ≤ maxLen
  strs : StrsAt w q.p q.parts
theorem AskD.Good.below {q : AskD} {w w' : World} {B : Nat} (h : q.Good w) (hb : Below B w w') (hB : w.heap.size ≤ B) : q.Good w' := ⟨h.hA, h.hB, h.dom, h.n, h.len, h.strs.below hb hB⟩
theorem AskD.size (q : AskD) {w : World} (h : q.Good w) : q.cells.size = 67 := askc_size _ _ _ _ _ _ _ h.hA h.hB
theorem AskD.one (q : AskD) : q.cells.all (·.oneCell') = true := askc_one _ _ _ _ _ _ _
theorem fill_two {s : Nat} (hs : 0 < s) (c1 c2 cells : Array Value) (h1 : c1.size = s) (h2 : c2.size = s) (hz : cells.size = 2 * s) : Instr.fill (fun i => some (i * s, s)) cells [(0, .agg c1), (1, .agg c2)] = some (c1 ++ c2) := by
  obtain ⟨r, hr, hsz, hk⟩ := Great.fill_dense hs [.agg c1, .agg c2] 0 cells (by simp [Value.cells, h1, h2]) (by simp [hz])
  have e : r = c1 ++ c2 := by
    apply Array.ext_getElem?
    intro k
    rw [hk k]
    by_cases h : k < 2 * s
    · rw [if_pos ⟨by omega, by simpa using h⟩, Array.getElem?_append]
      by_cases hk1 : k < s
      · rw [if_pos (by omega)]
        simp [Nat.div_eq_of_lt hk1, Nat.mod_eq_of_lt hk1, Value.cells]
      · have e1 : k / s = 1 := by
          have := Nat.div_add_mod k s
          have := Nat.mod_lt k hs
          have h3 : k / s < 2 := Nat.div_lt_of_lt_mul (by omega)
          have h4 : 1 ≤ k / s := (Nat.le_div_iff_mul_le hs).2 (by omega)
          omega
        have e2 : k % s = k - s := by
          have := Nat.div_add_mod k s
          rw [e1] at this; omega
        rw [if_neg (by omega), e1, e2, h1]
        simp [Value.cells]
    · rw [if_neg (by simp; omega), Array.getElem?_eq_none (by omega), Array.getElem?_eq_none (by simp; omega)]
  rw [e] at hr
  exact hr
theorem wpList_build_two {P : Program} {ops : Array Oper} {rest : List Oper} {o : Oper} {a : Act} {w : World} {Q : Exit → Act → World → Prop} (hg : o.guard = none) (t e : TypeId) (x y : Operand) (ho : o.op = .buildSlice t 2 #[(0, x), (1, y)]) (s b : Nat) (hs : 0 < s) (hs2 : s ≤ 1000)
    (c1 c2 : Array Value) (hx : a.eval x = .agg c1) (hy : a.eval y = .agg c2) (h1 : c1.size = s) (h2 : c2.size = s) (hu : P.underlying t = some (.slice e)) (hi : (P.info? e).map (fun i => (i.size, i.bytes, i.zero.map (·.cells.size))) = some (s, b, some s))
    (h : wpList P ops Q rest (a.put o.dst (.slice (some ⟨w.heap.size, 0, none⟩) 2 2)) (w.alloc (.cells (c1 ++ c2) e))) : wpList P ops Q (o :: rest) a w := by
  obtain ⟨i, z, hie, hz, e1, e2, e3⟩ := rowInfo hi
  refine wpList_buildSlice hg t e 2 #[(0, x), (1, y)] ho (c1 ++ c2) i z hu hie hz (by rw [e1]; omega) (by rw [e1]; omega) ?_ h
  rw [e1, show (#[(0, x), (1, y)].map fun (p : Nat × Operand) => (p.1, a.eval p.2)).toList = [(0, .agg c1), (1, .agg c2)] by simp [hx, hy]]
  exact fill_two hs c1 c2 _ h1 h2 (by simp)
theorem two_range {w : World} {g : Nat} {t : TypeId} {c1 c2 : Array Value} (h : w.heap[g]? = some (.cells (c1 ++ c2) t (0, 0))) (h1 : c1.size = 67) (h2 : c2.size = 67) (k : Nat) (hk : k < 2) : w.rangeAt g (k * 67) (if k = 0 then c1 else c2).toList := fun i u hu => by
  rw [cell_of_row _ _ _ _ _ _ h]
  by_cases e : k = 0
  · subst e
    rw [if_pos rfl] at hu
    have hi : i < 67 := by
      have := (List.getElem?_eq_some_iff.1 hu).1; simpa [h1] using this
    rw [Array.getElem?_append, if_pos (by omega), ← Array.getElem?_toList, show 0 * 67 + i = i by omega]; exact hu
  · obtain rfl : k = 1 := by omega
    rw [if_neg e] at hu
    rw [Array.getElem?_append, if_neg (by omega), ← Array.getElem?_toList, show 1 * 67 + i - c1.size = i by omega]; exact hu
theorem range_belowA {w w' : World} {B b off : Nat} {cs : List Value} (h : w.rangeAt b off cs) (hb : Below B w w') (hB : b < B) : w'.rangeAt b off cs := fun i v hv => by
  rw [hb.cell (p := ⟨b, off + i, none⟩) hB]; exact h i v hv
/-- A row stored into a block just made; the world behind it a letter. -/
theorem wpList_store_newV {P : Program} {ops : Array Oper} {rest : List Oper} {op : Oper} {a : Act} {Q : Exit → Act → World → Prop} (hgd : op.guard = none) (ty : TypeId) (x y : Operand) (ho : op.op = .store ty x y)
    (W0 : World) (Z : Array Value) (t : TypeId) (D : Array Value) (hx : a.eval x = .pointer (some ⟨W0.heap.size, 0, none⟩)) (hy : a.eval y = .agg D)
    (hi : (P.info? ty).map (·.size) = some D.size) (hz : Z.size = D.size) (h1 : D.all (·.oneCell') = true)
    (h : ∀ w', w'.heap[W0.heap.size]? = some (.cells D t (0, 0)) → Below W0.heap.size W0 w' → w'.heap.size = W0.heap.size + 1 → wpList P ops Q rest (a.put op.dst undef) w') :
    wpList P ops Q (op :: rest) a (W0.alloc (.cells Z t)) := by
  refine wpList_store_row hgd ty x y ho W0.heap.size D hx hy t Z (al1 _ _) hi hz h1 ?_
  exact h _ (setRow_heap _ _ _ _ _ _ (al1 W0 (.cells Z t))) (below_setRow ((Below.refl _ _).alloc (Nat.le_refl _) _) (Nat.le_refl _) _) (by rw [setRow_size, World.size_alloc])
theorem str_at {w : World} {a : Option Addr} {parts : List (List UInt8)} (hs : StrsAt w a parts) (hn : 0 < parts.length) : ∃ b o, a = some ⟨b, o, none⟩ ∧ b < w.heap.size ∧ ∀ j, j < parts.length → w.cell? ⟨b, o + j, none⟩ = some (.string (str (parts.getD j []))) := by
  rcases hs with h | h
  · rw [h] at hn; simp at hn
  · exact h
theorem askOk_long {parts : List (List UInt8)} (h : 20 < parts.length) : askOk parts = false := by unfold askOk; rw [decide_eq_false (by omega)]; rfl
theorem askOk_wide {parts : List (List UInt8)} (j : Nat) (hj : j < parts.length) (h : 1000 < (parts.getD j []).length) : askOk parts = false := by
  unfold askOk
  rw [Bool.and_eq_false_iff]
  right
  rw [List.all_eq_false]
  rw [List.getD_eq_getElem?_getD, List.getElem?_eq_getElem hj] at h
  exact ⟨_, List.getElem_mem hj, by simpa using h⟩
theorem askOk_good {parts : List (List UInt8)} (h : parts.length ≤ 20) (hj : ∀ j, j < parts.length → (parts.getD j []).length ≤ 1000) : askOk parts = true := by
  unfold askOk
  rw [decide_eq_true h, Bool.true_and, List.all_eq_true]
  intro p hp
  obtain ⟨j, hlt, rfl⟩ := List.getElem_of_mem hp
  have := hj j hlt
  rw [List.getD_eq_getElem?_getD, List.getElem?_eq_getElem hlt] at this
  simpa using this
set_option maxHeartbeats 2000000 in
set_option maxRecDepth 100000 in
theorem light_calls (x y : AskD) (g : Nat) (w : World) (hx : x.Good w) (hy : y.Good w) (t : TypeId) (hr : w.heap[g]? = some (.cells (x.cells ++ y.cells) t (0, 0))) :
    Calls Tryd.prog 7 #[.slice (some ⟨g, 0, none⟩) 2 2] w fun e w' => e = .returned (.bool (askOk x.parts && askOk y.parts)) ∧ Below w.heap.size w w' := by
  have hg : g < w.heap.size := (Array.getElem?_eq_some_iff.1 hr).1
  obtain ⟨F, hF⟩ : ∃ F : Nat → AskD, F = fun k => if k = 0 then x else y := ⟨_, rfl⟩
  have HR : Hid (∀ k, k < 2 → w.rangeAt g (k * 67) (F k).cells.toList) := fun k hk => by
    have := two_range hr (x.size hx) (y.size hy) k hk
    rw [hF]
    show World.rangeAt _ _ _ (if k = 0 then x else y).cells.toList
    by_cases e : k = 0
    · rw [if_pos e] at this ⊢; exact this
    · rw [if_neg e] at this ⊢; exact this
  have HG : Hid (∀ k, (F k).Good w) := fun k => by
    rw [hF]
    show (if k = 0 then x else y).Good w
    split <;> assumption
  have HE : Hid ((askOk x.parts && askOk y.parts) = (askOk (F 0).parts && askOk (F 1).parts)) := by rw [hF]; exact rfl
  rw [unhide HE]
  clear hr hx hy hF HE
  go_enter Tryd.func7, Tryd.ntmps7
  go_wp2
  go_loopw [9] (fun i wr => ∃ k : Nat, k ≤ 2 ∧ i = .int .i64 (k : Int) ∧ Below w.heap.size w wr ∧ Hid (∀ j, j < k → askOk (F j).parts = true)) (fun i _ => 2 - (intOf i).toNat)
  case atStart => exact ⟨0, by omega, rfl, Below.refl _ _, hide fun j hj => absurd hj (Nat.not_lt_zero _)⟩
  case round =>
    obtain ⟨k, hk, rfl, hb, hok⟩ := hrel
    by_cases hlt : k < 2
    · have hd : decide ((k : Int) < 2) = true := by simp; omega
      have bk : (0 : Int) ≤ k ∧ (k : Int) < 2 := by omega
      have hBnd : (F k).parts.length ≤ 9223372036854775807 := by have := (unhide HG k).n; unfold maxLen at this; omega
      have hrg : wr.rangeAt g (k * 67) (F k).cells.toList := range_belowA (unhide HR k hlt) hb hg
      have Gk := unhide HG k
      have hsz : (F k).cells.size = 67 := (F k).size Gk
      have hone := (F k).one
      have hstr := Gk.strs
      have hlen := Gk.len
      obtain ⟨n, hn⟩ : ∃ n, (F k).parts.length = n := ⟨_, rfl⟩
      obtain ⟨PT, hPT⟩ : ∃ PT, (F k).parts = PT := ⟨_, rfl⟩
      have hC1 : (F k).cells[1]? = some (.slice (F k).p n (F k).c) := by rw [← hn]; exact askc_1 _ _ _ _ _ _ _
      obtain ⟨cp, hcp⟩ : ∃ cp, (F k).p = cp := ⟨_, rfl⟩
      obtain ⟨cc, hcc⟩ : ∃ cc, (F k).c = cc := ⟨_, rfl⟩
      rw [hcp, hcc] at hC1
      rw [hcp, hPT] at hstr
      rw [hPT] at hlen hn
      rw [hPT, hn] at hBnd
      obtain ⟨C, hC⟩ : ∃ C, (F k).cells = C := ⟨_, rfl⟩
      rw [hC] at hrg hsz hone hC1
      have HPT := hide hPT
      have HN := hide hn
      have hi := ask_info C hsz
      have hil : (Tryd.prog.info? 33).map (·.size) = some C.toList.length := by rw [hi]; simp
      have HSTR := hide hstr
      have HLEN := hide hlen
      clear hPT hn hcp hcc hC hstr hlen Gk
      by_cases h20 : 20 < n
      · have d20 : decide ((20 : Int) < (n : Int)) = true := by simp; omega
        go_wp2_with (first
          | (refine wpList_load_mid rfl 33 (.tmp 11) rfl g (k * 67) rfl C.toList _ hrg Tryd.underlying33 rfl hil ?_)
          | (refine wpList_store_newV rfl 33 (.tmp 4) (.tmp 12) rfl wr _ _ C rfl rfl hi (by rw [hsz]; rfl) hone ?_; intro w1 q1 b1 z1; have c1 : w1.cell? ⟨wr.heap.size, 1, none⟩ = some (.slice cp n cc) := (cell_of_row _ _ _ _ _ _ q1).trans hC1))
        go_ret
        have e : (askOk (F 0).parts && askOk (F 1).parts) = false := by
          have h0 : askOk (F k).parts = false := by rw [unhide HPT]; exact askOk_long (by rw [unhide HN]; exact h20)
          have hk' : k = 0 ∨ k = 1 := by omega
          rcases hk' with rfl | rfl <;> simp [h0]
        rw [e]
        exact ⟨rfl, hb.trans (b1.mono hb.size)⟩
      · have d20 : decide ((20 : Int) < (n : Int)) = false := by simp; omega
        go_wp2_with (first
          | (refine wpList_load_mid rfl 33 (.tmp 11) rfl g (k * 67) rfl C.toList _ hrg Tryd.underlying33 rfl hil ?_)
          | (refine wpList_store_newV rfl 33 (.tmp 4) (.tmp 12) rfl wr _ _ C rfl rfl hi (by rw [hsz]; rfl) hone ?_; intro w1 q1 b1 z1; have c1 : w1.cell? ⟨wr.heap.size, 1, none⟩ = some (.slice cp n cc) := (cell_of_row _ _ _ _ _ _ q1).trans hC1))
        clear hrg hsz hone hC1 hi hil
        have HB1 := hide (hb.trans (b1.mono hb.size))
        have hNw : wr.heap.size < w1.heap.size := by omega
        have hwW : w.heap.size ≤ wr.heap.size := hb.size
        clear b1 c1 q1 z1
        go_loopw [6, 25] (fun _ i w2 => ∃ j : Nat, j ≤ n ∧ i = .int .i64 (j : Int) ∧ w2 = w1 ∧ Hid (∀ m, m < j → (PT.getD m []).length ≤ 1000)) (fun _ i _ => n - (intOf i).toNat)
        case atStart => exact ⟨0, by omega, rfl, rfl, hide fun j hj => absurd hj (Nat.not_lt_zero _)⟩
        case round =>
          obtain ⟨j, hj, rfl, rfl, hwd⟩ := hrel
          by_cases hjn : j < n
          · have hdj : decide ((j : Int) < (n : Int)) = true := by simp; omega
            have bj : (0 : Int) ≤ j ∧ (j : Int) < (n : Int) := by omega
            obtain ⟨b, o, rfl, hbl, hc⟩ := str_at (unhide HSTR) (by rw [unhide HN]; omega)
            have c : wr.cell? ⟨b, o + j, none⟩ = some (.string (str (PT.getD j []))) := by
              rw [(unhide HB1).cell (p := ⟨b, o + j, none⟩) hbl]; exact hc j (by rw [unhide HN]; exact hjn)
            have hpl : (PT.getD j []).length ≤ 9223372036854775807 := by
              rw [List.getD_eq_getElem?_getD, List.getElem?_eq_getElem (by rw [unhide HN]; exact hjn)]
              have := unhide HLEN _ (List.getElem_mem (l := PT) (by rw [unhide HN]; exact hjn))
              unfold maxLen at this
              exact this
            have Hc := hide hc
            obtain ⟨s, hs⟩ : ∃ s, PT.getD j [] = s := ⟨_, rfl⟩
            rw [hs] at c hpl
            have HS := hide hs
            clear hc hs
            by_cases h1000 : 1000 < s.length
            · have d1000 : decide ((1000 : Int) < (s.length : Int)) = true := by simp; omega
              go_wp2
              go_ret
              have e : (askOk (F 0).parts && askOk (F 1).parts) = false := by
                have h0 : askOk (F k).parts = false := by
                  rw [unhide HPT]
                  exact askOk_wide j (by rw [unhide HN]; exact hjn) (by rw [unhide HS]; exact h1000)
                have hk' : k = 0 ∨ k = 1 := by omega
                rcases hk' with rfl | rfl <;> simp [h0]
              rw [e]
              exact ⟨rfl, unhide HB1⟩
            · have d1000 : decide ((1000 : Int) < (s.length : Int)) = false := by simp; omega
              go_wp2
              go_roundw
              case rel => exact ⟨j + 1, by omega, by go_num, trivial, hide fun m hm => by
                rcases Nat.lt_succ_iff_lt_or_eq.1 hm with h' | rfl
                · exact unhide hwd m h'
                · rw [unhide HS]; omega⟩
              case measure => simp [intOf]; omega
          · have hdj : decide ((j : Int) < (n : Int)) = false := by simp; omega
            go_wp2
            go_roundw
            case rel => exact ⟨k + 1, by omega, by go_num, unhide HB1, hide fun m hm => by
              rcases Nat.lt_succ_iff_lt_or_eq.1 hm with h' | rfl
              · exact unhide hok m h'
              · rw [unhide HPT]; exact askOk_good (by rw [unhide HN]; omega) (fun m hm => unhide hwd m (by rw [unhide HN] at hm; omega))⟩
            case measure => simp [intOf]; omega
    · have hd : decide ((k : Int) < 2) = false := by simp; omega
      go_wp2
      go_ret
      rw [unhide hok 0 (by omega), unhide hok 1 (by omega)]
      exact ⟨rfl, hb⟩
end Go.Proofs.YtccecnohgakllaaDoor
