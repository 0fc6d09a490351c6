/-
  A SLICE OF BYTES THAT THE CALL OWNS, appended to.
-/
import Derived.Test.YtdkcgiifldhdeaaDoorConvB
import Derived.Lib.BufSteps
namespace Go.Proofs.YtdkcgiifldhdeaaDoor
open Go.RowKit
set_option linter.unusedSimpArgs false
set_option linter.unusedVariables false

/-- A slice of bytes that the call owns. -/
def Buf (W : World) (B : Nat) (l : List UInt8) (v : Value) (w : World) : Prop := Lib.OwnBuf B 5 v l.length (Lib.byteCells l) W w
theorem Buf.form {W w : World} {B : Nat} {l : List UInt8} {v : Value} (h : Buf W B l v w) (hl : l ≠ []) :
    ∃ g cap, v = .slice (some ⟨g, 0, none⟩) l.length cap ∧ l.length ≤ cap ∧ cap ≤ maxLen ∧ B ≤ g ∧ g < w.heap.size ∧ Bytes w g 0 l := by
  obtain ⟨h1, h2⟩ := h.1
  rcases h2 with ⟨_, h0⟩ | ⟨g, cap, cur, fz, rfl, hB, hg, _, hc, hm, hs, ht⟩
  · exact absurd (List.eq_nil_of_length_eq_zero h0) hl
  · refine ⟨g, cap, rfl, hc, hm, hB, (h.1.lt g rfl).2, fun j hj => ?_⟩
    have := h.1.cells (g := g) rfl j (.int .u8 ((l.getD j 0).toNat : Int)) (by simp [Lib.byteCells, hj])
    rw [show (⟨g, 0, none⟩ : Addr).add j = ⟨g, 0 + j, none⟩ by unfold Addr.add; split <;> simp_all] at this
    exact this
theorem byteInfo : ∃ i, Tryd.prog.info? 5 = some i ∧ i.zero = some (.int .u8 0) ∧ i.size = 1 ∧ i.bytes = 1 := by
  have e : (Tryd.prog.info? 5).map (fun i => (i.zero, i.size, i.bytes)) = some (some (.int .u8 0), 1, 1) := by kernel_rfl
  cases hq : Tryd.prog.info? 5 with
  | none => rw [hq] at e; cases e
  | some i =>
    rw [hq] at e
    simp only [Option.map_some, Option.some.injEq, Prod.mk.injEq] at e
    exact ⟨i, rfl, e.1, e.2.1, e.2.2⟩
theorem wpList_append_b {ops : Array Oper} {rest : List Oper} {o : Oper} {a : Act} {Q : Exit → Act → World → Prop} (hgd : o.guard = none) (s x : Operand)
    (ho : o.op = .call { callee := .builtin .append, args := #[s, x], argTypes := #[40, 40] })
    (W : World) (B : Nat) (l : List UInt8) (v : Value) (hs : a.eval s = v) (w0 : World) (c : Int) (b : UInt8) (hc : c = (b.toNat : Int)) (hb : Buf W B l v w0)
    (hx : a.eval x = .slice (some ⟨w0.heap.size, 0, none⟩) 1 1) (hlen : l.length + 1 ≤ 140737488355328)
    (h : ∀ g cap w', Buf W B (l ++ [b]) (.slice (some ⟨g, 0, none⟩) (l.length + 1) cap) w' → wpList Tryd.prog ops Q rest (a.put o.dst (.slice (some ⟨g, 0, none⟩) (l.length + 1) cap)) w') : wpList Tryd.prog ops Q (o :: rest) a (w0.alloc (.cells #[.int .u8 c] 5)) := by
  obtain ⟨i, hi, hz, h1, h2⟩ := byteInfo
  refine Lib.wpList_append_byte hgd s x 40 ho B 5 i Tryd.underlying40 hi hz h1 h2 v l.length _ hs W w0 c hb hx hlen ?_
  intro v' w' hb'
  have hb2 : Buf W B (l ++ [b]) v' w' := by
    subst hc
    unfold Buf
    rw [List.length_append]
    simpa [Lib.byteCells] using hb'
  obtain ⟨g, cap, rfl, _⟩ := hb2.form (by simp)
  rw [List.length_append] at hb2 ⊢
  exact h g cap w' hb2
theorem wpList_append_l {ops : Array Oper} {rest : List Oper} {o : Oper} {a : Act} {Q : Exit → Act → World → Prop} (hgd : o.guard = none) (s x : Operand)
    (ho : o.op = .call { callee := .builtin .append, args := #[s, x], argTypes := #[40, 40] })
    (W : World) (B : Nat) (hs : a.eval s = .slice none 0 0) (w0 : World) (m : List UInt8) (g off cap : Nat) (hb : Below B W w0) (hB : B ≤ w0.heap.size)
    (hx : a.eval x = .slice (some ⟨g, off, none⟩) m.length cap) (hm : Bytes w0 g off m) (hlen : m.length ≤ 140737488355328)
    (h : ∀ v' w', Buf W B m v' w' → wpList Tryd.prog ops Q rest (a.put o.dst v') w') : wpList Tryd.prog ops Q (o :: rest) a w0 := by
  obtain ⟨i, hi, hz, h1, h2⟩ := byteInfo
  have h0 : Lib.OwnBuf B 5 (.slice none 0 0) 0 [] W w0 := ⟨World.ownsRowF_nil _ _ _ _, hb, hB⟩
  refine wpList_append_ownF _ hgd s x 40 ho B 5 i (.int .u8 0) 1 1 Tryd.underlying40 hi hz h1 h2 rfl (by decide) (.slice none 0 0) 0 [] hs h0.1 ⟨g, off, none⟩ m.length cap (Lib.byteCells m) hx (by simp [Lib.byteCells]) ?_ ?_ (by unfold maxLen; omega) (by omega) hB ?_
  · intro j u hj
    have hjl : j < m.length := by
      have := (List.getElem?_eq_some_iff.1 hj).1; simpa [Lib.byteCells] using this
    have hu : u = .int .u8 ((m.getD j 0).toNat : Int) := by
      simp [Lib.byteCells, hjl] at hj; simp [hjl, hj]
    rw [show (⟨g, off, none⟩ : Addr).add j = ⟨g, off + j, none⟩ by unfold Addr.add; split <;> simp_all, hu]
    exact hm j hjl
  · intro u hu
    simp [Lib.byteCells] at hu
    obtain ⟨b, _, rfl⟩ := hu; rfl
  · intro v' w' ho' hg _
    refine h v' w' ?_
    have := h0.grown ho' hg
    simpa [Buf] using this

theorem strC (m : List UInt8) : Lib.strCells (str m) = Lib.byteCells m := by simp [Lib.strCells, Lib.byteCells, str]
theorem wpList_append_2 {ops : Array Oper} {rest : List Oper} {o : Oper} {a : Act} {Q : Exit → Act → World → Prop} (hgd : o.guard = none) (s x : Operand)
    (ho : o.op = .call { callee := .builtin .append, args := #[s, x], argTypes := #[40, 40] })
    (W : World) (B : Nat) (l : List UInt8) (v : Value) (hs : a.eval s = v) (w0 : World) (c1 c2 : Int) (b1 b2 : UInt8) (hc1 : c1 = (b1.toNat : Int)) (hc2 : c2 = (b2.toNat : Int)) (hb : Buf W B l v w0)
    (hx : a.eval x = .slice (some ⟨w0.heap.size, 0, none⟩) 2 2) (hlen : l.length + 2 ≤ 140737488355328)
    (h : ∀ v' w', Buf W B (l ++ [b1, b2]) v' w' → wpList Tryd.prog ops Q rest (a.put o.dst v') w') : wpList Tryd.prog ops Q (o :: rest) a (w0.alloc (.cells #[.int .u8 c1, .int .u8 c2] 5)) := by
  obtain ⟨i, hi, hz, h1, h2⟩ := byteInfo
  have hb' := Lib.OwnBuf.alloc hb (.cells #[.int .u8 c1, .int .u8 c2] 5)
  refine wpList_append_ownF _ hgd s x 40 ho B 5 i (.int .u8 0) 1 1 Tryd.underlying40 hi hz h1 h2 rfl (by decide) v l.length (Lib.byteCells l) hs hb'.1 ⟨w0.heap.size, 0, none⟩ 2 2 [.int .u8 c1, .int .u8 c2] hx rfl ?_ ?_ (by unfold maxLen; omega) (by omega) hb'.2.2 ?_
  · intro j u hj
    match j, hj with
    | 0, hj => simp at hj; subst hj; simp [Addr.add]
    | 1, hj => simp at hj; subst hj; simp [Addr.add]
    | (j + 2), hj => simp at hj
  · intro u hu; simp at hu; rcases hu with rfl | rfl <;> rfl
  · intro v' w' ho' hg _
    refine h v' w' ?_
    have := hb'.grown ho' hg
    subst hc1 hc2
    unfold Buf
    rw [List.length_append]
    simpa [Lib.byteCells] using this
theorem wpList_append_s {ops : Array Oper} {rest : List Oper} {o : Oper} {a : Act} {Q : Exit → Act → World → Prop} {w : World} (hgd : o.guard = none) (s x : Operand)
    (ho : o.op = .call { callee := .builtin .append, args := #[s, x], argTypes := #[40, 9] })
    (W : World) (B : Nat) (l : List UInt8) (v : Value) (hs : a.eval s = v) (m : List UInt8) (hb : Buf W B l v w)
    (hx : a.eval x = .string (str m)) (hlen : l.length + m.length ≤ 140737488355328)
    (h : ∀ v' w', Buf W B (l ++ m) v' w' → wpList Tryd.prog ops Q rest (a.put o.dst v') w') : wpList Tryd.prog ops Q (o :: rest) a w := by
  obtain ⟨i, hi, hz, h1, h2⟩ := byteInfo
  refine Lib.wpList_append_text hgd s x 40 9 ho B 5 i Tryd.underlying40 Tryd.underlying9 hi hz h1 h2 v l.length (Lib.byteCells l) hs W hb (str m) hx (by rw [str_size]; exact hlen) ?_
  intro v' w' hb'
  refine h v' w' ?_
  rw [str_size, strC] at hb'
  unfold Buf
  rw [List.length_append, Lib.byteCells_append]; exact hb'
theorem conv_nil (w : World) : (convert 40 9 (.slice none 0 0)).run Tryd.prog w = .ok (.string (str [])) w := by kernel_rfl
theorem Buf.convert {W w : World} {B : Nat} {l : List UInt8} {v : Value} (h : Buf W B l v w) : (convert 40 9 v).run Tryd.prog w = .ok (.string (str l)) w := by
  obtain ⟨h1, h2⟩ := h.1
  rcases h2 with ⟨rfl, h0⟩ | ⟨g, cap, cur, fz, rfl, hB, hg, _, hc, hm, hs, ht⟩
  · have : l = [] := List.eq_nil_of_length_eq_zero h0
    subst this
    exact conv_nil w
  · refine run_convert_bytes_back (P := Tryd.prog) w 40 9 5 ⟨g, 0, none⟩ cap l Tryd.underlying40 Tryd.underlying5 Tryd.underlying9 (fun j hj => ?_)
    have := h.1.cells (g := g) rfl j (.int .u8 ((l.getD j 0).toNat : Int)) (by simp [Lib.byteCells, hj])
    rw [this]; simp [hj]
end Go.Proofs.YtdkcgiifldhdeaaDoor
