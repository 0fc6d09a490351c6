/-
  A SLICE OF BYTES THAT THE CALL OWNS, appended to.
-/
/-
  WHAT THE REFERENCE'S End RETURNS.
-/
/-
  WHAT THE REFERENCE'S Sum RETURNS.
-/
/-
  THE DOCUMENT's OWN DIGEST OF A DOMAIN AND PARTS (layer 4), where there is no log.
-/
/-
  THE DOCUMENT's LOG: New, Of, Clash.
-/
/-
  UNLIKE DOMAINS OR PARTS HAVE UNLIKE INPUTS.
-/
/-
  A LETTER's BYTES BY THE DOCUMENT; its leaf, the program's where there is no log, and the document's with its log.
-/
/-
  == AND != OF TWO DIGESTS.
-/
/-
  A PART OF A ROW LOADED INSIDE A REGION THAT DRAWS ITS ORDER, as a step of the quiet walk. Over whatever program.
-/
/-
  A ROW STORED INTO A BLOCK THAT WAS JUST MADE: the world behind it is a letter of which all is known. Over whatever program.
-/
import Derived.Test.YtaclnlmmkcjjeaaDoorJ0
import Derived.Lib.BufSteps
import Derived.Test.YtaclnlmmkcjjeaaDoorJ3
import Derived.Test.YtaclnlmmkcjjeaaDoorJ2
import Derived.BigQuiet
import Derived.Test.YtaclnlmmkcjjeaaDoorJ1
import Derived.Deep.MidRow
import Derived.Laws.StructEq
import Derived.Laws.Rows
namespace Go.Proofs.YtaclnlmmkcjjeaaDoor
open Go.RowKit
set_option linter.unusedSimpArgs false
set_option linter.unusedVariables false

/-- A slice of bytes that the call owns. -/
def Buf (W : World) (B : Nat) (l : List UInt8) (v : Value) (w : World) : Prop := Lib.OwnBuf B 5 v l.length (Lib.byteCells l) W w
theorem Buf.form {W w : World} {B : Nat} {l : List UInt8} {v : Value} (h : Buf W B l v w) (hl : l ≠ []) :
    ∃ g cap, v = .slice (some ⟨g, 0, none⟩) l.length cap ∧ l.length ≤ cap ∧ cap ≤ maxLen ∧ B ≤ g ∧ g < w.heap.size ∧ Bytes w g 0 l := by
  obtain ⟨h1, h2⟩ := h.1
  rcases h2 with ⟨_, h0⟩ | ⟨g, cap, cur, fz, rfl, hB, hg, _, hc, hm, hs, ht⟩
  · exact absurd (List.eq_nil_of_length_eq_zero h0) hl
  · refine ⟨g, cap, rfl, hc, hm, hB, (h.1.lt g rfl).2, fun j hj => ?_⟩
    have := h.1.cells (g := g) rfl j (.int .u8 ((l.getD j 0).toNat : Int)) (by simp [Lib.byteCells, hj])
    rw [show (⟨g, 0, none⟩ : Addr).add j = ⟨g, 0 + j, none⟩ by unfold Addr.add; split <;> simp_all] at this
    exact this
theorem byteInfo : ∃ i, Tryd.prog.info? 5 = some i ∧ i.zero = some (.int .u8 0) ∧ i.size = 1 ∧ i.bytes = 1 := by
  have e : (Tryd.prog.info? 5).map (fun i => (i.zero, i.size, i.bytes)) = some (some (.int .u8 0), 1, 1) := by kernel_rfl
  cases hq : Tryd.prog.info? 5 with
  | none => rw [hq] at e; cases e
  | some i =>
    rw [hq] at e
    simp only [Option.map_some, Option.some.injEq, Prod.mk.injEq] at e
    exact ⟨i, rfl, e.1, e.2.1, e.2.2⟩
theorem wpList_append_b {ops : Array Oper} {rest : List Oper} {o : Oper} {a : Act} {Q : Exit → Act → World → Prop} (hgd : o.guard = none) (s x : Operand)
    (ho : o.op = .call { callee := .builtin .append, args := #[s, x], argTypes := #[67, 67] })
    (W : World) (B : Nat) (l : List UInt8) (v : Value) (hs : a.eval s = v) (w0 : World) (c : Int) (b : UInt8) (hc : c = (b.toNat : Int)) (hb : Buf W B l v w0)
    (hx : a.eval x = .slice (some ⟨w0.heap.size, 0, none⟩) 1 1) (hlen : l.length + 1 ≤ 140737488355328)
    (h : ∀ g cap w', Buf W B (l ++ [b]) (.slice (some ⟨g, 0, none⟩) (l.length + 1) cap) w' → wpList Tryd.prog ops Q rest (a.put o.dst (.slice (some ⟨g, 0, none⟩) (l.length + 1) cap)) w') : wpList Tryd.prog ops Q (o :: rest) a (w0.alloc (.cells #[.int .u8 c] 5)) := by
  obtain ⟨i, hi, hz, h1, h2⟩ := byteInfo
  refine Lib.wpList_append_byte hgd s x 67 ho B 5 i Tryd.underlying67 hi hz h1 h2 v l.length _ hs W w0 c hb hx hlen ?_
  intro v' w' hb'
  have hb2 : Buf W B (l ++ [b]) v' w' := by
    subst hc
    unfold Buf
    rw [List.length_append]
    simpa [Lib.byteCells] using hb'
  obtain ⟨g, cap, rfl, _⟩ := hb2.form (by simp)
  rw [List.length_append] at hb2 ⊢
  exact h g cap w' hb2
theorem wpList_append_l {ops : Array Oper} {rest : List Oper} {o : Oper} {a : Act} {Q : Exit → Act → World → Prop} (hgd : o.guard = none) (s x : Operand)
    (ho : o.op = .call { callee := .builtin .append, args := #[s, x], argTypes := #[67, 67] })
    (W : World) (B : Nat) (hs : a.eval s = .slice none 0 0) (w0 : World) (m : List UInt8) (g off cap : Nat) (hb : Below B W w0) (hB : B ≤ w0.heap.size)
    (hx : a.eval x = .slice (some ⟨g, off, none⟩) m.length cap) (hm : Bytes w0 g off m) (hlen : m.length ≤ 140737488355328)
    (h : ∀ v' w', Buf W B m v' w' → wpList Tryd.prog ops Q rest (a.put o.dst v') w') : wpList Tryd.prog ops Q (o :: rest) a w0 := by
  obtain ⟨i, hi, hz, h1, h2⟩ := byteInfo
  have h0 : Lib.OwnBuf B 5 (.slice none 0 0) 0 [] W w0 := ⟨World.ownsRowF_nil _ _ _ _, hb, hB⟩
  refine wpList_append_ownF _ hgd s x 67 ho B 5 i (.int .u8 0) 1 1 Tryd.underlying67 hi hz h1 h2 rfl (by decide) (.slice none 0 0) 0 [] hs h0.1 ⟨g, off, none⟩ m.length cap (Lib.byteCells m) hx (by simp [Lib.byteCells]) ?_ ?_ (by unfold maxLen; omega) (by omega) hB ?_
  · intro j u hj
    have hjl : j < m.length := by
      have := (List.getElem?_eq_some_iff.1 hj).1; simpa [Lib.byteCells] using this
    have hu : u = .int .u8 ((m.getD j 0).toNat : Int) := by
      simp [Lib.byteCells, hjl] at hj; simp [hjl, hj]
    rw [show (⟨g, off, none⟩ : Addr).add j = ⟨g, off + j, none⟩ by unfold Addr.add; split <;> simp_all, hu]
    exact hm j hjl
  · intro u hu
    simp [Lib.byteCells] at hu
    obtain ⟨b, _, rfl⟩ := hu; rfl
  · intro v' w' ho' hg _
    refine h v' w' ?_
    have := h0.grown ho' hg
    simpa [Buf] using this

theorem strC (m : List UInt8) : Lib.strCells (str m) = Lib.byteCells m := by simp [Lib.strCells, Lib.byteCells, str]
theorem wpList_append_2 {ops : Array Oper} {rest : List Oper} {o : Oper} {a : Act} {Q : Exit → Act → World → Prop} (hgd : o.guard = none) (s x : Operand)
    (ho : o.op = .call { callee := .builtin .append, args := #[s, x], argTypes := #[67, 67] })
    (W : World) (B : Nat) (l : List UInt8) (v : Value) (hs : a.eval s = v) (w0 : World) (c1 c2 : Int) (b1 b2 : UInt8) (hc1 : c1 = (b1.toNat : Int)) (hc2 : c2 = (b2.toNat : Int)) (hb : Buf W B l v w0)
    (hx : a.eval x = .slice (some ⟨w0.heap.size, 0, none⟩) 2 2) (hlen : l.length + 2 ≤ 140737488355328)
    (h : ∀ v' w', Buf W B (l ++ [b1, b2]) v' w' → wpList Tryd.prog ops Q rest (a.put o.dst v') w') : wpList Tryd.prog ops Q (o :: rest) a (w0.alloc (.cells #[.int .u8 c1, .int .u8 c2] 5)) := by
  obtain ⟨i, hi, hz, h1, h2⟩ := byteInfo
  have hb' := Lib.OwnBuf.alloc hb (.cells #[.int .u8 c1, .int .u8 c2] 5)
  refine wpList_append_ownF _ hgd s x 67 ho B 5 i (.int .u8 0) 1 1 Tryd.underlying67 hi hz h1 h2 rfl (by decide) v l.length (Lib.byteCells l) hs hb'.1 ⟨w0.heap.size, 0, none⟩ 2 2 [.int .u8 c1, .int .u8 c2] hx rfl ?_ ?_ (by unfold maxLen; omega) (by omega) hb'.2.2 ?_
  · intro j u hj
    match j, hj with
    | 0, hj => simp at hj; subst hj; simp [Addr.add]
    | 1, hj => simp at hj; subst hj; simp [Addr.add]
    | (j + 2), hj => simp at hj
  · intro u hu; simp at hu; rcases hu with rfl | rfl <;> rfl
  · intro v' w' ho' hg _
    refine h v' w' ?_
    have := hb'.grown ho' hg
    subst hc1 hc2
    unfold Buf
    rw [List.length_append]
    simpa [Lib.byteCells] using this
theorem wpList_append_s {ops : Array Oper} {rest : List Oper} {o : Oper} {a : Act} {Q : Exit → Act → World → Prop} {w : World} (hgd : o.guard = none) (s x : Operand)
    (ho : o.op = .call { callee := .builtin .append, args := #[s, x], argTypes := #[67, 9] })
    (W : World) (B : Nat) (l : List UInt8) (v : Value) (hs : a.eval s = v) (m : List UInt8) (hb : Buf W B l v w)
    (hx : a.eval x = .string (str m)) (hlen : l.length + m.length ≤ 140737488355328)
    (h : ∀ v' w', Buf W B (l ++ m) v' w' → wpList Tryd.prog ops Q rest (a.put o.dst v') w') : wpList Tryd.prog ops Q (o :: rest) a w := by
  obtain ⟨i, hi, hz, h1, h2⟩ := byteInfo
  refine Lib.wpList_append_text hgd s x 67 9 ho B 5 i Tryd.underlying67 Tryd.underlying9 hi hz h1 h2 v l.length (Lib.byteCells l) hs W hb (str m) hx (by rw [str_size]; exact hlen) ?_
  intro v' w' hb'
  refine h v' w' ?_
  rw [str_size, strC] at hb'
  unfold Buf
  rw [List.length_append, Lib.byteCells_append]; exact hb'
theorem conv_nil (w : World) : (convert 67 9 (.slice none 0 0)).run Tryd.prog w = .ok (.string (str [])) w := by kernel_rfl
theorem Buf.convert {W w : World} {B : Nat} {l : List UInt8} {v : Value} (h : Buf W B l v w) : (convert 67 9 v).run Tryd.prog w = .ok (.string (str l)) w := by
  obtain ⟨h1, h2⟩ := h.1
  rcases h2 with ⟨rfl, h0⟩ | ⟨g, cap, cur, fz, rfl, hB, hg, _, hc, hm, hs, ht⟩
  · have : l = [] := List.eq_nil_of_length_eq_zero h0
    subst this
    exact conv_nil w
  · refine run_convert_bytes_back (P := Tryd.prog) w 67 9 5 ⟨g, 0, none⟩ cap l Tryd.underlying67 Tryd.underlying5 Tryd.underlying9 (fun j hj => ?_)
    have := h.1.cells (g := g) rfl j (.int .u8 ((l.getD j 0).toNat : Int)) (by simp [Lib.byteCells, hj])
    rw [this]; simp [hj]
end Go.Proofs.YtaclnlmmkcjjeaaDoor

namespace Go.Proofs.YtaclnlmmkcjjeaaDoor
open Go.RowKit
set_option linter.unusedSimpArgs false
set_option linter.unusedVariables false

theorem flat_at (l : List (BitVec 32)) (k : Nat) : (l.flatMap wordBytes).getD k 0 = (wordBytes (l.getD (k / 4) 0)).getD (k % 4) 0 ∨ l.length ≤ k / 4 := by
  induction l generalizing k with
  | nil => right; simp
  | cons x l ih =>
    by_cases h : k < 4
    · left
      rw [List.flatMap_cons, List.getD_eq_getElem?_getD, List.getElem?_append_left (by rw [wordBytes_length]; exact h), Nat.div_eq_of_lt h, Nat.mod_eq_of_lt h, ← List.getD_eq_getElem?_getD]; rfl
    · rcases ih (k - 4) with h1 | h1
      · left
        rw [List.flatMap_cons, List.getD_eq_getElem?_getD, List.getElem?_append_right (by rw [wordBytes_length]; omega), wordBytes_length, ← List.getD_eq_getElem?_getD, h1, show (k - 4) % 4 = k % 4 by omega, show k / 4 = (k - 4) / 4 + 1 by omega]
        rfl
      · right; simp; omega
theorem noughts_test (n k : Nat) (h : k ≤ noughts n) : ((((n + 1 + k : Nat) : Int) % 64 != 56) = true ↔ k < noughts n) := by
  unfold noughts at *
  simp only [bne_iff_ne, ne_eq]
  omega
theorem pad_snoc (m : List UInt8) (k : Nat) : m ++ 128 :: List.replicate k 0 ++ [(0 : UInt8)] = m ++ 128 :: List.replicate (k + 1) 0 := by
  simp [List.replicate_succ']
set_option maxHeartbeats 2000000 in
set_option maxRecDepth 100000 in
theorem rend_calls (st : S8) (m : List UInt8) (count : BitVec 64) (gb off cap : Nat) (hl : m.length ≤ 140737488355000) (w : World) (hg : gb < w.heap.size) (hs : Bytes w gb off m) :
    Calls Tryd.prog 38 #[.agg st.cells, .slice (some ⟨gb, off, none⟩) m.length cap, .int .u64 (count.toNat : Int)] w fun e w' => e = .returned (.agg (bc (pEnd ⟨st, m, count⟩))) ∧ Below w.heap.size w w' := by
  generalize hE : pEnd ⟨st, m, count⟩ = res
  have hpl := padBytes_length m.length count
  have HE := hide hE
  have HPL := hide hpl
  obtain ⟨a, b, c, d, e, f, g, h⟩ := st
  have hargs : (S8.mk a b c d e f g h).cells = #[.int .u32 (a.toNat : Int), .int .u32 (b.toNat : Int), .int .u32 (c.toNat : Int), .int .u32 (d.toNat : Int), .int .u32 (e.toNat : Int), .int .u32 (f.toNat : Int), .int .u32 (g.toNat : Int), .int .u32 (h.toNat : Int)] := rfl
  rw [hargs]
  have q0 := (al2 w (.cells #[.int .u32 (a.toNat : Int), .int .u32 (b.toNat : Int), .int .u32 (c.toNat : Int), .int .u32 (d.toNat : Int), .int .u32 (e.toNat : Int), .int .u32 (f.toNat : Int), .int .u32 (g.toNat : Int), .int .u32 (h.toNat : Int)] 68) (.cells (bc (List.replicate 32 0)) 30)).1
  have q1 := (al2 w (.cells #[.int .u32 (a.toNat : Int), .int .u32 (b.toNat : Int), .int .u32 (c.toNat : Int), .int .u32 (d.toNat : Int), .int .u32 (e.toNat : Int), .int .u32 (f.toNat : Int), .int .u32 (g.toNat : Int), .int .u32 (h.toNat : Int)] 68) (.cells (bc (List.replicate 32 0)) 30)).2
  have hbX := bel2 w (.cells #[.int .u32 (a.toNat : Int), .int .u32 (b.toNat : Int), .int .u32 (c.toNat : Int), .int .u32 (d.toNat : Int), .int .u32 (e.toNat : Int), .int .u32 (f.toNat : Int), .int .u32 (g.toNat : Int), .int .u32 (h.toNat : Int)] 68) (.cells (bc (List.replicate 32 0)) 30)
  have hsX : ((w.alloc (.cells #[.int .u32 (a.toNat : Int), .int .u32 (b.toNat : Int), .int .u32 (c.toNat : Int), .int .u32 (d.toNat : Int), .int .u32 (e.toNat : Int), .int .u32 (f.toNat : Int), .int .u32 (g.toNat : Int), .int .u32 (h.toNat : Int)] 68)).alloc (.cells (bc (List.replicate 32 0)) 30)).heap.size = w.heap.size + 1 + 1 := by simp
  have hmX := hs.below hbX hg
  have hWb : Below (w.heap.size + 1 + 1) ((w.alloc (.cells #[.int .u32 (a.toNat : Int), .int .u32 (b.toNat : Int), .int .u32 (c.toNat : Int), .int .u32 (d.toNat : Int), .int .u32 (e.toNat : Int), .int .u32 (f.toNat : Int), .int .u32 (g.toNat : Int), .int .u32 (h.toNat : Int)] 68)).alloc (.cells (bc (List.replicate 32 0)) 30)) ((w.alloc (.cells #[.int .u32 (a.toNat : Int), .int .u32 (b.toNat : Int), .int .u32 (c.toNat : Int), .int .u32 (d.toNat : Int), .int .u32 (e.toNat : Int), .int .u32 (f.toNat : Int), .int .u32 (g.toNat : Int), .int .u32 (h.toNat : Int)] 68)).alloc (.cells (bc (List.replicate 32 0)) 30)) := Below.refl _ _
  have Q0 := hide q0
  have Q1 := hide q1
  have HBX := hide hbX
  have HSX := hide hsX
  generalize hN : noughts m.length = N at *
  have hN64 : N < 64 := by rw [← hN]; exact Nat.mod_lt _ (by decide)
  have HN := hide hN
  clear hargs hE hpl q0 q1 hbX hsX hN
  go_enter Tryd.func38, Tryd.ntmps38
  go_wp2_with (first
    | (at_builtin; refine wpList_append_l rfl (.tmp 12) (.tmp 13) rfl ((w.alloc (.cells #[.int .u32 (a.toNat : Int), .int .u32 (b.toNat : Int), .int .u32 (c.toNat : Int), .int .u32 (d.toNat : Int), .int .u32 (e.toNat : Int), .int .u32 (f.toNat : Int), .int .u32 (g.toNat : Int), .int .u32 (h.toNat : Int)] 68)).alloc (.cells (bc (List.replicate 32 0)) 30)) (w.heap.size + 1 + 1) rfl _ m gb off cap hWb (Nat.le_of_eq (unhide HSX).symm) rfl hmX (by omega) ?_; intro v1 w1 hbuf1)
    | (at_builtin; refine wpList_append_b rfl (.tmp 15) (.tmp 16) rfl ((w.alloc (.cells #[.int .u32 (a.toNat : Int), .int .u32 (b.toNat : Int), .int .u32 (c.toNat : Int), .int .u32 (d.toNat : Int), .int .u32 (e.toNat : Int), .int .u32 (f.toNat : Int), .int .u32 (g.toNat : Int), .int .u32 (h.toNat : Int)] 68)).alloc (.cells (bc (List.replicate 32 0)) 30)) (w.heap.size + 1 + 1) m v1 rfl w1 128 128 rfl hbuf1 rfl (by omega) ?_; intro g2 cap2 w2 hbuf2))
  generalize hX : ((w.alloc (.cells #[.int .u32 (a.toNat : Int), .int .u32 (b.toNat : Int), .int .u32 (c.toNat : Int), .int .u32 (d.toNat : Int), .int .u32 (e.toNat : Int), .int .u32 (f.toNat : Int), .int .u32 (g.toNat : Int), .int .u32 (h.toNat : Int)] 68)).alloc (.cells (bc (List.replicate 32 0)) 30)) = X at *
  clear hX hWb hmX hbuf1
  go_loopw [7] (fun v wr => ∃ (k g cap : Nat), k ≤ N ∧ v = .slice (some ⟨g, 0, none⟩) (m.length + 1 + k) cap ∧ Buf X (w.heap.size + 1 + 1) (m ++ 128 :: List.replicate k 0) v wr) (fun v _ => match v with | .slice _ n _ => m.length + 1 + N - n | _ => 0)
  case atStart => exact ⟨0, g2, cap2, by omega, rfl, hbuf2⟩
  case round =>
    clear hbuf2
    obtain ⟨k, g3, cap3, hk, rfl, hbuf⟩ := hrel
    have htest := noughts_test m.length k (by rw [unhide HN]; exact hk)
    rw [unhide HN] at htest
    have hlen : (m ++ 128 :: List.replicate k (0 : UInt8)).length = m.length + 1 + k := by simp; omega
    by_cases hlt : k < N
    · have hd := htest.2 hlt
      clear htest
      have Hlen := hide hlen
      generalize hn : m.length + 1 + k = n at *
      have hnb : n ≤ 140737488355200 := by omega
      have Hn := hide hn
      clear hlen hn
      go_wp2_with (at_builtin; refine wpList_append_b rfl (.tmp 22) (.tmp 23) rfl X (w.heap.size + 1 + 1) (m ++ 128 :: List.replicate k 0) _ rfl wr 0 0 rfl hbuf rfl (by rw [unhide Hlen]; omega) ?_; intro g4 cap4 w4 hbuf4)
      go_roundw
      case rel =>
        have e1 := unhide Hlen
        rw [pad_snoc, e1] at hbuf4
        have e3 : m.length + (k + 1) + 1 = m.length + 1 + (k + 1) := by omega
        have e4 : n + 1 = m.length + (k + 1) + 1 := by have := unhide Hn; omega
        refine ⟨k + 1, g4, cap4, by omega, ?_, ?_⟩
        · rw [e3]
        · rw [← e4]; exact hbuf4
      case measure =>
        have e1 := unhide Hlen
        have e2 := unhide Hn
        simp at e1 ⊢; omega
    · have hd : (((m.length + 1 + k : Nat) : Int) % 64 != 56) = false := by
        cases hq : (((m.length + 1 + k : Nat) : Int) % 64 != 56) with
        | false => rfl
        | true => exact absurd (htest.1 hq) hlt
      clear htest
      obtain rfl : k = N := by omega
      generalize hn0 : m.length + 1 + k = n0 at *
      have hn0b : n0 ≤ 140737488355200 := by omega
      generalize hL0 : m ++ 128 :: List.replicate k (0 : UInt8) = L0 at *
      have Hlen := hide hlen
      have Hn0 := hide hn0
      have HL0 := hide hL0
      have m8 := m8_wrap count
      clear hlen hn0 hL0
      go_wp2
      generalize hx : mul8 count = x
      have Hx := hide hx
      clear hx m8
      go_loopw [7, 9] (fun v i wr => ∃ (k g cap : Nat), k ≤ 8 ∧ i = .int .i64 k ∧ v = .slice (some ⟨g, 0, none⟩) (n0 + k) cap ∧ Buf X (w.heap.size + 1 + 1) (L0 ++ (be64 x).take k) v wr) (fun _ i _ => 8 - (intOf i).toNat)
      case atStart => exact ⟨0, g3, cap3, by omega, rfl, rfl, by simpa using hbuf⟩
      case round =>
        clear hbuf
        obtain ⟨k, g5, cap5, hk, rfl, rfl, hbuf⟩ := hrel
        have hLlen : (L0 ++ (be64 x).take k).length = n0 + k := by rw [List.length_append, unhide Hlen, List.length_take, be64_length]; omega
        by_cases hlt : k < 8
        · generalize hL : L0 ++ (be64 x).take k = L at *
          have HL := hide hL
          have HLlen := hide hLlen
          have hnk : n0 + k ≤ 140737488355210 := by omega
          obtain ⟨sh, hsh, es⟩ : ∃ sh : Nat, Hid (56 - 8 * k = sh) ∧ (56 : Int) - 8 * (k : Int) = (sh : Int) := ⟨_, rfl, by omega⟩
          have hs64 : sh ≤ 56 := by have := unhide hsh; omega
          have wu := wu64 (sh : Int) (by omega) (by omega)
          have hdk : decide ((k : Int) < 8) = true := by simp; omega
          clear hL hLlen
          go_wp2_with (at_builtin; refine wpList_append_b rfl (.tmp 31) (.tmp 39) rfl X (w.heap.size + 1 + 1) L _ rfl wr _ (UInt8.ofNat (x.toNat / 2 ^ sh)) (byte_mod _ _) hbuf rfl (by rw [unhide HLlen]; omega) ?_; intro g6 cap6 w6 hbuf6)
          go_roundw
          case rel =>
            have e1 := unhide HLlen
            refine ⟨k + 1, g6, cap6, by omega, by go_num, by rw [e1]; rfl, ?_⟩
            rw [take_snoc' (be64 x) k 0 (by rw [be64_length]; omega), be64_at x k hlt, unhide hsh, ← List.append_assoc, unhide HL]
            exact hbuf6
          case measure => simp [intOf]; omega
        · have hdk : decide ((k : Int) < 8) = false := by simp; omega
          have hLP : L0 ++ (be64 x).take k = m ++ padBytes m.length count := by
            rw [← unhide HL0, ← unhide Hx, padBytes, unhide HN, List.take_of_length_le (by rw [be64_length]; omega)]; simp
          rw [hLP] at hbuf hLlen
          generalize hLPg : m ++ padBytes m.length count = LP at *
          rw [← hLlen] at hbuf ⊢
          have hLb : LP.length ≤ 140737488355328 := by omega
          obtain ⟨g6, cap6, hv, h61, h62, h63, h64, h65⟩ := hbuf.form (by intro h0; rw [h0] at hLlen; simp at hLlen; omega)
          obtain ⟨rfl, rfl⟩ : g6 = g5 ∧ cap6 = cap5 := by
            simp at hv; exact ⟨hv.1.symm, hv.2.symm⟩
          have hbX := hbuf.2.1
          have hsX := unhide HSX
          have q0 := Below.at hbX (by omega) (unhide Q0)
          have q1 := Below.at hbX (by omega) (unhide Q1)
          have hbw : Below w.heap.size w wr := (unhide HBX).trans (hbX.mono (by omega))
          have hzr : w.heap.size + 1 + 1 ≤ wr.heap.size := by have := hbX.size; omega
          have HLPg := hide hLPg
          clear hbuf hv hLP hLPg hLlen hsX hbX
          have hi0 : (Tryd.prog.info? 68).map (·.size) = some (S8.mk a b c d e f g h).cells.size := by show _ = some 8; kernel_rfl
          go_wp2_with (refine wpList_load_row rfl 68 (.tmp 3) rfl w.heap.size rfl 68 (S8.mk a b c d e f g h).cells (0, 0) _ q0 Tryd.underlying68 rfl hi0 ?_)
          refine (after_calls ⟨a, b, c, d, e, f, g, h⟩ LP g6 0 cap6 h61 h62 wr h64 h65).mono ?_
          rintro en w5 ⟨off5, cap5, rfl, _, _, _, hb5⟩
          have q0' := Below.at hb5 (by omega) q0
          have q1' := Below.at hb5 (by omega) q1
          have hbw5 := hbw.trans (hb5.mono hbw.size)
          have hz5 := hb5.size
          generalize hT : pThrough ⟨a, b, c, d, e, f, g, h⟩ LP = T
          obtain ⟨T1, T2⟩ := T
          have hres : res = T1.bytes := by
            rw [← unhide HE, pEnd]; show (pThrough _ (m ++ padBytes m.length count)).1.bytes = _
            rw [unhide HLPg, hT]
          have Hres := hide hres
          have hi1 : (Tryd.prog.info? 68).map (·.size) = some T1.cells.size := by show _ = some 8; kernel_rfl
          have ho1 : T1.cells.all (·.oneCell') = true := wc_oneCell _
          clear hT hres
          go_wp2_with (refine wpList_store_row rfl 68 (.tmp 3) (.tmp 45) rfl w.heap.size _ rfl rfl 68 _ q0' hi1 rfl ho1 ?_)
          have z6 : (w5.setRow w.heap.size T1.cells).heap.size = w5.heap.size := setRow_size _ _ _
          have p0 : ((w5.setRow w.heap.size T1.cells).alloc (.cells (bc (List.replicate 32 0)) 30)).heap[w.heap.size]? = some (.cells T1.cells 68 (0, 0)) := by
            rw [Below.heap_alloc _ _ _ (by omega)]; exact setRow_heap _ _ _ _ _ _ q0'
          have p1 : ((w5.setRow w.heap.size T1.cells).alloc (.cells (bc (List.replicate 32 0)) 30)).heap[w.heap.size + 1]? = some (.cells (bc (List.replicate 32 0)) 30 (0, 0)) := by
            rw [Below.heap_alloc _ _ _ (by omega), setRow_other _ _ _ _ (by omega)]; exact q1'
          have pd : ((w5.setRow w.heap.size T1.cells).alloc (.cells (bc (List.replicate 32 0)) 30)).heap[w5.heap.size]? = some (.cells (bc (List.replicate 32 0)) 30 (0, 0)) := by
            rw [← z6]; exact al1 _ _
          have pb : Below w.heap.size w ((w5.setRow w.heap.size T1.cells).alloc (.cells (bc (List.replicate 32 0)) 30)) := (below_setRow hbw5 (Nat.le_refl _) _).alloc (by omega) _
          have hgd : w.heap.size + 1 + 1 ≤ w5.heap.size := by omega
          have hreslen : res.length = 32 := by rw [unhide Hres]; exact S8.bytes_length _
          have P0 := hide p0
          have P1 := hide p1
          have PD := hide pd
          have PB := hide pb
          have Hrl := hide hreslen
          clear p0 p1 pd pb z6 q0' q1' hbw5 hb5 hz5 hi1 ho1 hreslen
          generalize hgdg : w5.heap.size = gd at *
          clear hgdg
          go_loopw [11] (fun i wr => ∃ k : Nat, k ≤ 32 ∧ i = .int .i64 k ∧ Below w.heap.size w wr ∧ wr.heap[gd]? = some (.cells (bc (res.take k ++ List.replicate (32 - k) 0)) 30 (0, 0)) ∧ wr.heap[w.heap.size]? = some (.cells T1.cells 68 (0, 0)) ∧ wr.heap[w.heap.size + 1]? = some (.cells (bc (List.replicate 32 0)) 30 (0, 0))) (fun i _ => 32 - (intOf i).toNat)
          case atStart => exact ⟨0, by omega, rfl, unhide PB, unhide PD, unhide P0, unhide P1⟩
          case round =>
            clear P0 P1 PD PB q0 q1 hbw hzr
            obtain ⟨k, hk, rfl, hb, qd, q0, q1⟩ := hrel
            by_cases hlt : k < 32
            · obtain ⟨x, ex, cx⟩ : ∃ x : BitVec 32, Hid (T1.list.getD (k / 4) 0 = x) ∧ wr.cell? ⟨w.heap.size, k / 4, none⟩ = some (.int .u32 (x.toNat : Int)) := ⟨_, rfl, by rw [cell_of_row _ _ _ _ _ _ q0]; exact wc_at _ _ (by show _ < 8; omega)⟩
              have hz : List.replicate (32 - k) (0 : UInt8) = 0 :: List.replicate (32 - (k + 1)) 0 := by rw [show 32 - k = (32 - (k + 1)) + 1 by omega]; rfl
              rw [hz] at qd
              have hlk : (res.take k).length = k := by rw [List.length_take, unhide Hrl]; omega
              have cd : wr.cell? ⟨gd, k, none⟩ = some (.int .u8 (((res.take k ++ 0 :: List.replicate (32 - (k + 1)) 0).getD k 0).toNat : Int)) := by
                rw [cell_of_row _ _ _ _ _ _ qd]; exact bc_at _ _ (by rw [List.length_append, hlk]; simp)
              generalize hv : (res.take k ++ 0 :: List.replicate (32 - (k + 1)) 0).getD k 0 = v at cd
              have fz : wr.frozen? ⟨gd, k, none⟩ = false := frozen_of_row _ _ _ _ _ qd
              have hby : res.getD k 0 = UInt8.ofNat (x.toNat / 2 ^ (24 - 8 * (k % 4))) := by
                rw [unhide Hres, S8.bytes, (flat_at T1.list k).resolve_right (by show ¬ 8 ≤ k / 4; omega), unhide ex, wordBytes_at _ _ (Nat.mod_lt _ (by decide))]
              obtain ⟨qq, hqq, eqq⟩ : ∃ qq : Nat, Hid (k / 4 = qq) ∧ (k : Int) / 4 = (qq : Int) := ⟨_, rfl, by omega⟩
              obtain ⟨rr, hrr, err⟩ : ∃ rr : Nat, Hid (k % 4 = rr) ∧ (k : Int) % 4 = (rr : Int) := ⟨_, rfl, by omega⟩
              obtain ⟨sh, hsh, es⟩ : ∃ sh : Nat, Hid (24 - 8 * rr = sh) ∧ (24 : Int) - 8 * (rr : Int) = (sh : Int) := ⟨_, rfl, by have := unhide hrr; omega⟩
              rw [unhide hqq] at cx
              rw [unhide hrr, unhide hsh] at hby
              have bq : (0 : Int) ≤ qq ∧ (qq : Int) < 8 := by have := unhide hqq; omega
              have bk : (0 : Int) ≤ k ∧ (k : Int) < 32 := by omega
              have hs24 : sh ≤ 24 := by have := unhide hsh; omega
              have wu := wu64 (sh : Int) (by omega) (by omega)
              have hdk : decide ((k : Int) < 32) = true := by simp; omega
              have Hby := hide hby
              have Qd := hide qd
              have Q00 := hide q0
              have Q11 := hide q1
              have Hlk := hide hlk
              clear hz hv hby qd q0 q1 hlk
              go_wp2
              go_roundw
              case rel =>
                refine ⟨k + 1, by omega, by go_num, hb.setCell (by show w.heap.size ≤ gd; omega) _, ?_, ?_, ?_⟩
                · rw [byte_mod, ← unhide Hby, heap_setCell_same _ _ _ _ _ _ (unhide Qd), bc_set _ _ _ _ _ (unhide Hlk).symm, take_snoc' _ _ 0 (by rw [unhide Hrl]; omega)]
                · rw [heap_setCell_other _ _ _ _ (by show _ ≠ gd; omega)]; exact unhide Q00
                · rw [heap_setCell_other _ _ _ _ (by show _ ≠ gd; omega)]; exact unhide Q11
              case measure => simp [intOf]; omega
            · have hdk : decide ((k : Int) < 32) = false := by simp; omega
              have qd' : wr.heap[gd]? = some (.cells (bc res) 30 (0, 0)) := by
                rw [qd, show k = 32 by omega, List.take_of_length_le (by rw [unhide Hrl]; omega)]; simp
              have hil : (Tryd.prog.info? 30).map (·.size) = some (bc res).size := by rw [bc_size, unhide Hrl]; kernel_rfl
              have ho1 := bc_oneCell res
              have hsz : (bc (List.replicate 32 (0 : UInt8))).size = (bc res).size := by rw [bc_size, bc_size, unhide Hrl]; rfl
              clear qd q0
              go_wp2_with (first
                | (refine wpList_load_row rfl 30 (.tmp 10) rfl gd rfl 30 _ (0, 0) _ qd' Tryd.underlying30 rfl hil ?_)
                | (refine wpList_store_row rfl 30 (.tmp 6) (.tmp 64) rfl (w.heap.size + 1) _ rfl rfl 30 _ q1 hil hsz ho1 ?_))
              exact bodyPost_ret (results_cell_row rfl _ _ (w.heap.size + 1) _ _ _ _ rfl (setRow_heap _ _ _ _ _ _ q1) Tryd.underlying30 rfl hil) rfl ⟨rfl, below_setRow hb (by simp) _⟩
end Go.Proofs.YtaclnlmmkcjjeaaDoor

namespace Go.Proofs.YtaclnlmmkcjjeaaDoor
open Go.RowKit
set_option linter.unusedSimpArgs false
set_option linter.unusedVariables false

theorem pSum_one (l : List UInt8) : pEnd ⟨(pThrough pBegin.s l).1, (pThrough pBegin.s l).2, BitVec.ofNat 64 l.length⟩ = pSum [l] := by
  show _ = pEnd (pAdd pBegin l)
  simp only [pAdd, pBegin, List.nil_append, add64]
  rw [show (0 : BitVec 64) + BitVec.ofNat 64 l.length = BitVec.ofNat 64 l.length from BitVec.zero_add _]

set_option maxHeartbeats 2000000 in
set_option maxRecDepth 100000 in
theorem rsum_calls (l : List UInt8) (hl : l.length ≤ 70368744177664) (w : World) :
    Calls Tryd.prog 23 #[.string (str l)] w fun e w' => e = .returned (.agg (bc (pSum [l]))) ∧ Below w.heap.size w w' := by
  have hres := pSum_one l
  generalize hR : pSum [l] = res at *
  have hreslen : res.length = 32 := by rw [← hR]; exact pSum_length _
  have Hres := hide hres
  have Hrl := hide hreslen
  have hcv := conv_run l
  have ex : IntKind.u64.wrap (l.length : Int) = ((BitVec.ofNat 64 l.length).toNat : Int) := by rw [IntKind.wrap_u64]; simp
  generalize hcount : BitVec.ofNat 64 l.length = cnt at *
  have q0 := al1 w (.cells (bc (List.replicate 32 0)) 30)
  have hb0 := (Below.refl w.heap.size w).alloc (Nat.le_refl _) (.cells (bc (List.replicate 32 0)) 30)
  have Q0 := hide q0
  have HB0 := hide hb0
  clear hres hreslen hR q0 hb0 hcount
  go_enter Tryd.func23, Tryd.ntmps23
  go_wp2_with fail
  refine (first_calls _).mono ?_
  rintro en w1 ⟨rfl, hb1⟩
  have q1 := Below.at hb1 (by simp) (unhide Q0)
  have hbw1 := (unhide HB0).trans (hb1.mono (by simp))
  have hz1 : w.heap.size < w1.heap.size := by have := hb1.size; simp at this; omega
  clear hb1 Q0 HB0
  go_wp2_with fail
  refine (after_calls pBegin.s l w1.heap.size 0 (bcap w1 l) (bcap_ge _ _) (bcap_le _ _ (by unfold maxLen; omega)) (bworld w1 l) (by rw [bworld_size]; omega) (bworld_bytes _ _)).mono ?_
  rintro en w2 ⟨off2, cap2, rfl, hc2, _, hby2, hb2⟩
  have hbb := bworld_below l (Below.refl w1.heap.size w1) (Nat.le_refl _)
  have hbs := bworld_size w1 l
  have hb12 : Below w1.heap.size w1 w2 := hbb.trans (hb2.mono (by omega))
  have q2 := Below.at hb12 hz1 q1
  have hbw2 := hbw1.trans (hb12.mono hbw1.size)
  have hz2 : w1.heap.size < w2.heap.size := by have := hb2.size; omega
  clear hbb hbs hb12 hb2 q1 hbw1
  have hTl := pThrough_rest_le pBegin.s l
  generalize hT : pThrough pBegin.s l = T at *
  obtain ⟨T1, T2⟩ := T
  have hTl : T2.length < 64 := hTl.1
  have hi1 : (Tryd.prog.info? 68).map (·.size) = some T1.cells.size := by show _ = some 8; kernel_rfl
  have ho1 : T1.cells.all (·.oneCell') = true := wc_oneCell _
  have qz : (w2.alloc (.cells (wc (List.replicate 8 0)) 68)).heap[w2.heap.size]? = some (.cells (wc (List.replicate 8 0)) 68 (0, 0)) := al1 _ _
  have qs := setRow_heap (w2.alloc (.cells (wc (List.replicate 8 0)) 68)) w2.heap.size _ T1.cells _ _ qz
  clear hT hcv
  go_wp2_with (first
    | (refine wpList_store_row rfl 68 (.tmp 3) (.tmp 10) rfl w2.heap.size _ rfl rfl 68 _ qz hi1 rfl ho1 ?_)
    | (refine wpList_load_row rfl 68 (.tmp 3) rfl w2.heap.size rfl 68 _ (0, 0) _ qs Tryd.underlying68 rfl hi1 ?_))
  have hb3 : Below w.heap.size w ((w2.alloc (.cells (wc (List.replicate 8 0)) 68)).setRow w2.heap.size T1.cells) := below_setRow (hbw2.alloc hbw2.size _) hbw2.size _
  have hb3' : Below w2.heap.size w2 ((w2.alloc (.cells (wc (List.replicate 8 0)) 68)).setRow w2.heap.size T1.cells) := below_setRow ((Below.refl _ _).alloc (Nat.le_refl _) _) (Nat.le_refl _) _
  have hz3 : ((w2.alloc (.cells (wc (List.replicate 8 0)) 68)).setRow w2.heap.size T1.cells).heap.size = w2.heap.size + 1 := by rw [setRow_size]; simp
  refine (rend_calls T1 T2 cnt w1.heap.size off2 cap2 (by omega) _ (by rw [hz3]; omega) (hby2.below hb3' hz2)).mono ?_
  rintro en w3 ⟨rfl, hb4⟩
  have q3 := Below.at hb4 (by rw [hz3]; omega) (Below.at hb3' (by omega) q2)
  have hbw3 := hb3.trans (hb4.mono (by rw [hz3]; have := hbw2.size; omega))
  have hres := unhide Hres
  rw [hres]
  have hil : (Tryd.prog.info? 30).map (·.size) = some (bc res).size := by rw [bc_size, unhide Hrl]; kernel_rfl
  have ho2 := bc_oneCell res
  have hsz : (bc (List.replicate 32 (0 : UInt8))).size = (bc res).size := by rw [bc_size, bc_size, unhide Hrl]; rfl
  clear hres hb4 hb3 hb3' hz3 qz qs
  go_wp2_with (refine wpList_store_row rfl 30 (.tmp 2) (.tmp 17) rfl w.heap.size _ rfl rfl 30 _ q3 hil hsz ho2 ?_)
  exact bodyPost_ret (results_cell_row rfl _ _ w.heap.size _ _ _ _ rfl (setRow_heap _ _ _ _ _ _ q3) Tryd.underlying30 rfl hil) rfl ⟨rfl, below_setRow hbw3 (Nat.le_refl _) _⟩
end Go.Proofs.YtaclnlmmkcjjeaaDoor

namespace Go.Proofs.YtaclnlmmkcjjeaaDoor
open Go.RowKit
set_option linter.unusedSimpArgs false
set_option linter.unusedVariables false

theorem pBig_one (dom : Nat) : pBig dom 1 = [UInt8.ofNat dom] := by simp [pBig]
theorem byte_conv (w : World) (x : Nat) (h : x < 256) : (convert 67 9 (.slice (some ⟨w.heap.size, 0, none⟩) 1 1)).run Tryd.prog (w.alloc (.cells #[.int .u8 (x : Int)] 5)) = .ok (.string (str [UInt8.ofNat x])) (w.alloc (.cells #[.int .u8 (x : Int)] 5)) := by
  have hc : (w.alloc (.cells #[.int .u8 (x : Int)] 5)).cell? ⟨w.heap.size, 0, none⟩ = some (.int .u8 (x : Int)) := by go_simp
  refine run_convert_bytes_back (P := Tryd.prog) _ 67 9 5 ⟨w.heap.size, 0, none⟩ 1 [UInt8.ofNat x] Tryd.underlying67 Tryd.underlying5 Tryd.underlying9 (fun j hj => ?_)
  have : j = 0 := by simp at hj; omega
  subst this
  have e : (x : Int) = ((UInt8.ofNat x).toNat : Int) := by rw [UInt8.toNat_ofNat']; omega
  rw [e] at hc ⊢
  exact hc
set_option maxHeartbeats 2000000 in
set_option maxRecDepth 100000 in
theorem rinput_calls (dom : Nat) (hd : dom < 256) (parts : List (List UInt8)) (hp : ∀ p ∈ parts, p.length ≤ 100000000) (hn : parts.length ≤ 1000) (a : Option Addr) (cap : Nat) (w : World) (hs : StrsAt w a parts) :
    Calls Tryd.prog 22 #[.int .u8 (dom : Int), .slice a parts.length cap] w fun e w' => e = .returned (.string (str (pInput dom parts))) ∧ Below w.heap.size w w' := by
  have hb0 : ∀ k, ((parts.take k).flatMap pText4).length ≤ 200000000000 := fun k => Nat.le_trans (in_bound _ parts k hp hn) (by decide)
  have HB0 := hide hb0
  have HP := hide hp
  have HS := hide hs
  obtain ⟨R, hR⟩ : ∃ R, Hid (pInput dom parts = R) := ⟨_, hide rfl⟩
  rw [unhide hR]
  have hcv := byte_conv w dom hd
  rw [← pBig_one] at hcv
  have hbl := pBig_length dom 1
  have hbw : Below w.heap.size w (w.alloc (.cells #[.int .u8 (dom : Int)] 5)) := (Below.refl _ w).alloc (Nat.le_refl _) _
  have Hbw := hide hbw
  clear hb0 hp hs hbw
  go_enter Tryd.func22, Tryd.ntmps22
  go_wp2_with (simp only [hcv])
  go_loopw [5, 13] (fun s i wr => ∃ k : Nat, k ≤ parts.length ∧ i = .int .i64 (k : Int) ∧ s = .string (str (pBig dom 1 ++ (parts.take k).flatMap pText4)) ∧ Below w.heap.size w wr) (fun _ i _ => parts.length - (intOf i).toNat)
  case atStart => exact ⟨0, by omega, rfl, by rw [List.take_zero, List.flatMap_nil, List.append_nil], unhide Hbw⟩
  case round =>
    clear hcv
    obtain ⟨k, hk, rfl, rfl, hb⟩ := hrel
    have hz := hb.size
    by_cases hlt : k < parts.length
    · have hd1 : decide ((k : Int) < (parts.length : Int)) = true := by simp; omega
      have bk : (0 : Int) ≤ k ∧ (k : Int) < (parts.length : Int) := by omega
      obtain ⟨g, o, rfl, hg, hc⟩ : ∃ b o, a = some ⟨b, o, none⟩ ∧ b < w.heap.size ∧ ∀ j, j < parts.length → w.cell? ⟨b, o + j, none⟩ = some (.string (str (parts.getD j []))) := by
        rcases unhide HS with h | h
        · rw [h] at hlt; simp at hlt
        · exact h
      have c : wr.cell? ⟨g, o + k, none⟩ = some (.string (str (parts.getD k []))) := by rw [hb.cell (p := ⟨g, o + k, none⟩) hg]; exact hc k hlt
      have hpk : (parts.getD k []).length ≤ 100000000 := by
        rw [List.getD_eq_getElem?_getD, List.getElem?_eq_getElem hlt]; exact unhide HP _ (List.getElem_mem _)
      have hnew : pBig dom 1 ++ (parts.take (k + 1)).flatMap pText4 = (pBig dom 1 ++ (parts.take k).flatMap pText4) ++ pText4 (parts.getD k []) := by
        rw [take_snoc' parts k [] hlt, List.flatMap_append]; simp
      have hl0 := unhide HB0 k
      have hpl := pText4_length (parts.getD k [])
      have hal : (pBig dom 1 ++ (parts.take k).flatMap pText4).length ≤ 200000000001 := by rw [List.length_append]; omega
      generalize pBig dom 1 ++ (parts.take k).flatMap pText4 = acc at *
      generalize parts.getD k [] = pt at *
      have ct := fun w => rtext3_calls pt (by omega) w
      generalize pText4 pt = tx at *
      have ea := append_str acc tx
      have n1 : ¬ 9223372036854775807 < acc.length + tx.length := by omega
      have Hnew := hide hnew
      clear hc hnew hl0
      go_wp2_with fail
      refine (ct _).mono ?_
      rintro e w3 ⟨rfl, b3⟩
      have hb3 := hb.trans (b3.mono hz)
      go_wp2
      go_roundw
      case rel => exact ⟨k + 1, by omega, by go_num, by rw [unhide Hnew], hb3⟩
      case measure => simp [intOf]; omega
    · have hd1 : decide ((k : Int) < (parts.length : Int)) = false := by simp; omega
      rw [List.take_of_length_le (by omega)]
      have hR' : pBig dom 1 ++ parts.flatMap pText4 = R := unhide hR
      rw [hR']
      clear hR'
      go_wp2
      go_ret
      exact ⟨rfl, hb⟩
theorem rnoteNil_calls (s : ByteArray) (cs : Array Value) (w : World) :
    Calls Tryd.prog 24 #[.pointer none, .agg cs, .string s] w fun e w' => e = .returned (.tuple #[]) ∧ Below w.heap.size w w' := by
  go_enter Tryd.func24, Tryd.ntmps24
  go_wp2
  exact bodyPost_ret (results_none rfl _ _ _) rfl ⟨rfl, (Below.refl _ _).alloc (Nat.le_refl _) _⟩
set_option maxHeartbeats 2000000 in
set_option maxRecDepth 100000 in
theorem rofNil_calls (dom : Nat) (hd : dom < 256) (parts : List (List UInt8)) (hp : ∀ p ∈ parts, p.length ≤ 100000000) (hn : parts.length ≤ 1000) (a : Option Addr) (cap : Nat) (w : World) (hs : StrsAt w a parts) :
    Calls Tryd.prog 13 #[.pointer none, .int .u8 (dom : Int), .slice a parts.length cap] w fun e w' => e = .returned (.agg (bc (pOf dom parts))) ∧ Below w.heap.size w w' := by
  have ci := fun w hs => rinput_calls dom hd parts hp hn a cap w hs
  have hil := pInput_len dom parts hp hn
  have hol := pOf_length dom parts
  have cs := fun w => rsum_calls (pInput dom parts) (by omega) w
  have e : pSum [pInput dom parts] = pOf dom parts := rfl
  rw [e] at cs
  have hi1 := digInfo _ hol
  have hz1 := zeroSize _ hol
  have ho1 : (bc (pOf dom parts)).all (·.oneCell') = true := bc_oneCell _
  generalize pInput dom parts = I at *
  generalize pOf dom parts = D at *
  have Ci := hide ci
  have Cs := hide cs
  have HS := hide hs
  clear ci cs hs hp e
  go_enter Tryd.func13, Tryd.ntmps13
  go_wp2_with fail
  have hb0 : Below w.heap.size w (w.alloc (.cells (bc (List.replicate 32 0)) 30)) := (Below.refl _ w).alloc (Nat.le_refl _) _
  refine (unhide Ci _ ((unhide HS).below hb0 (Nat.le_refl _))).mono ?_
  rintro e w1 ⟨rfl, b1⟩
  have q0 : w1.heap[w.heap.size]? = some (.cells (bc (List.replicate 32 0)) 30 (0, 0)) := Below.at b1 (by simp) (al1 _ _)
  have hb1 : Below w.heap.size w w1 := hb0.trans (b1.mono (by simp))
  have z1 : w.heap.size < w1.heap.size := by have := b1.size; simp at this; omega
  clear hb0 b1
  go_wp2_with fail
  refine (unhide Cs _).mono ?_
  rintro e w2 ⟨rfl, b2⟩
  have q0' := Below.at b2 (by omega) q0
  have hb2 : Below w.heap.size w w2 := hb1.trans (b2.mono (by omega))
  have z2 : w.heap.size < w2.heap.size := Nat.lt_of_lt_of_le z1 b2.size
  clear hb1 b2 q0 Cs Ci
  go_wp2_with (first
    | (refine wpList_store_row rfl 30 (.tmp 8) (.tmp 13) rfl w2.heap.size _ rfl rfl 30 _ (al1 _ _) hi1 hz1 ho1 ?_)
    | (refine wpList_load_row rfl 30 (.tmp 8) rfl w2.heap.size rfl 30 _ (0, 0) _ (setRow_heap _ _ _ (bc D) _ _ (al1 w2 (.cells (bc (List.replicate 32 0)) 30))) Tryd.underlying30 rfl hi1 ?_))
  have q8 := setRow_heap _ _ _ (bc D) _ _ (al1 w2 (.cells (bc (List.replicate 32 0)) 30))
  have q9 := (setRow_other (w2.alloc (.cells (bc (List.replicate 32 0)) 30)) w2.heap.size w.heap.size (bc D) (by omega)).trans ((Below.heap_alloc w2 _ _ z2).trans q0')
  have hb3 := below_setRow (hb2.alloc (by omega) (.cells (bc (List.replicate 32 0)) 30)) (Nat.le_of_lt z2) (bc D)
  have z3 : w2.heap.size < (w2.alloc (.cells (bc (List.replicate 32 0)) 30)).heap.size := by simp
  refine (rnoteNil_calls _ _ _).mono ?_
  rintro e w4 ⟨rfl, b4⟩
  have q8' := Below.at b4 (by rw [setRow_size, World.size_alloc]; omega) q8
  have q9' := Below.at b4 (by rw [setRow_size, World.size_alloc]; omega) q9
  have hb4 := hb3.trans (b4.mono (by rw [setRow_size, World.size_alloc]; omega))
  clear q8 q9 hb3 b4
  go_wp2_with (first
    | (refine wpList_load_row rfl 30 (.tmp 8) rfl w2.heap.size rfl 30 _ (0, 0) _ q8' Tryd.underlying30 rfl hi1 ?_)
    | (refine wpList_store_row rfl 30 (.tmp 6) (.tmp 18) rfl w.heap.size _ rfl rfl 30 _ q9' hi1 hz1 ho1 ?_))
  exact bodyPost_ret (results_cell_row rfl _ _ w.heap.size _ _ _ _ rfl (setRow_heap _ _ _ _ _ _ q9') Tryd.underlying30 rfl hi1) rfl ⟨rfl, below_setRow hb4 (Nat.le_refl _) _⟩
end Go.Proofs.YtaclnlmmkcjjeaaDoor

namespace Go.Proofs.YtaclnlmmkcjjeaaDoor
open Go Go.RowKit Go.Maps
set_option linter.unusedSimpArgs false
set_option linter.unusedVariables false

set_option maxHeartbeats 1000000 in
set_option maxRecDepth 100000 in
theorem rnewLog_calls (w : World) : Calls Tryd.prog 6 #[] w fun e w' => e = .returned (.pointer (some ⟨w.heap.size + 1, 0, none⟩)) ∧ RLogAt w' (w.heap.size + 1) (fun k => w.heap.size ≤ k ∧ k < w.heap.size + 2) [] ∧ Below w.heap.size w w' ∧ w'.heap.size = w.heap.size + 2 := by
  go_enter Tryd.func6, Tryd.ntmps6
  have hmm := @run_makeMap Tryd.prog
  go_wp2
  go_ret
  have hm := (World.ownsMap_made (H := Unit) w Tryd.prog 30 RV).alloc (.cells #[.slice none 0 0, .map (some w.heap.size)] 42)
  have q := al1 (w.alloc (.map #[] 0)) (.cells #[.slice none 0 0, .map (some w.heap.size)] 42)
  rw [World.size_alloc] at q
  have zz : ((w.alloc (.map #[] 0)).alloc (.cells #[.slice none 0 0, .map (some w.heap.size)] 42)).heap.size = w.heap.size + 2 := by simp
  have hb : Below w.heap.size w ((w.alloc (.map #[] 0)).alloc (.cells #[.slice none 0 0, .map (some w.heap.size)] 42)) := ((Below.refl _ w).alloc (Nat.le_refl _) _).alloc (by simp) _
  refine ⟨rfl, ⟨w.heap.size + 2, w.heap.size, .slice none 0 0, .map [], fun _ => .slice none 0 0, q, by omega, by omega, by omega, by omega, World.ownsRow_nil _ _ _ _, hm, ?_, ?_, ?_, ?_, ?_, rfl, ⟨by omega, by omega⟩, ⟨by omega, by omega⟩, ?_, ?_, ?_⟩, hb, zz⟩
  · intro d hd
    rw [atKey_of_not_has (has_eq [] _)]; rfl
  · intro d hd; exact World.ownsRow_nil _ _ _ _
  · intro d e _ _ _ k h; simp [Value.ownBlock] at h
  · intro d _ k h; simp [Value.ownBlock] at h
  · intro d hd; rfl
  · intro k h; simp [Value.ownBlock] at h
  · intro d _ k h; simp [Value.ownBlock] at h
  · intro k h; rw [zz]; exact h.2
set_option maxHeartbeats 2000000 in
set_option maxRecDepth 100000 in
theorem rof_calls (dom : Nat) (hd : dom < 256) (parts : List (List UInt8)) (hp : ∀ p ∈ parts, p.length ≤ 100000000) (hn : parts.length ≤ 1000) (a : Option Addr) (cap : Nat) (b : Nat) (S : Nat → Prop) (ins : List (List UInt8)) (hin : ins.length < 1000000) (w : World) (hs : StrsAt w a parts) (hL : RLogAt w b S ins) :
    Calls Tryd.prog 13 #[.pointer (some ⟨b, 0, none⟩), .int .u8 (dom : Int), .slice a parts.length cap] w fun e w' => e = .returned (.agg (bc (pOf dom parts))) ∧ RStep b S (rnoted (pInput dom parts) ins) w w' := by
  have ci := fun w hs => rinput_calls dom hd parts hp hn a cap w hs
  have hil := pInput_len dom parts hp hn
  have hol := pOf_length dom parts
  have cs := fun w => rsum_calls (pInput dom parts) (by omega) w
  have e : pSum [pInput dom parts] = pOf dom parts := rfl
  have cn := fun w hL => rnote_calls b S ins (pInput dom parts) (pOf dom parts) hol e (by unfold maxLen; omega) hin w hL
  rw [e] at cs
  have hi1 := digInfo _ hol
  have hz1 := zeroSize _ hol
  have ho1 : (bc (pOf dom parts)).all (·.oneCell') = true := bc_oneCell _
  generalize pInput dom parts = I at *
  generalize pOf dom parts = D at *
  have Ci := hide ci
  have Cs := hide cs
  have Cn := hide cn
  have HS := hide hs
  have HL := hide hL
  clear ci cs cn hs hp e hL
  go_enter Tryd.func13, Tryd.ntmps13
  go_wp2_with fail
  have hb0 : Below w.heap.size w (w.alloc (.cells (bc (List.replicate 32 0)) 30)) := (Below.refl _ w).alloc (Nat.le_refl _) _
  refine (unhide Ci _ ((unhide HS).below hb0 (Nat.le_refl _))).mono ?_
  rintro e w1 ⟨rfl, b1⟩
  have q0 : w1.heap[w.heap.size]? = some (.cells (bc (List.replicate 32 0)) 30 (0, 0)) := Below.at b1 (by simp) (al1 _ _)
  have hb1 : Below w.heap.size w w1 := hb0.trans (b1.mono (by simp))
  have z1 : w.heap.size < w1.heap.size := by have := b1.size; simp at this; omega
  clear hb0 b1
  go_wp2_with fail
  refine (unhide Cs _).mono ?_
  rintro e w2 ⟨rfl, b2⟩
  have q0' := Below.at b2 (by omega) q0
  have hb2 : Below w.heap.size w w2 := hb1.trans (b2.mono (by omega))
  have z2 : w.heap.size < w2.heap.size := Nat.lt_of_lt_of_le z1 b2.size
  clear hb1 b2 q0 Cs Ci
  go_wp2_with (first
    | (refine wpList_store_row rfl 30 (.tmp 8) (.tmp 13) rfl w2.heap.size _ rfl rfl 30 _ (al1 _ _) hi1 hz1 ho1 ?_)
    | (refine wpList_load_row rfl 30 (.tmp 8) rfl w2.heap.size rfl 30 _ (0, 0) _ (setRow_heap _ _ _ (bc D) _ _ (al1 w2 (.cells (bc (List.replicate 32 0)) 30))) Tryd.underlying30 rfl hi1 ?_))
  have q8 := setRow_heap _ _ _ (bc D) _ _ (al1 w2 (.cells (bc (List.replicate 32 0)) 30))
  have q9 := (setRow_other (w2.alloc (.cells (bc (List.replicate 32 0)) 30)) w2.heap.size w.heap.size (bc D) (by omega)).trans ((Below.heap_alloc w2 _ _ z2).trans q0')
  have hb3 := below_setRow (hb2.alloc (by omega) (.cells (bc (List.replicate 32 0)) 30)) (Nat.le_of_lt z2) (bc D)
  have z3 : w2.heap.size < ((w2.alloc (.cells (bc (List.replicate 32 0)) 30)).setRow w2.heap.size (bc D)).heap.size := by rw [setRow_size]; simp
  have HB3 := hide hb3
  have Z3 := hide z3
  refine (unhide Cn _ ((unhide HL).below hb3)).mono ?_
  rintro e w4 ⟨rfl, hst⟩
  have HST := hide hst
  have HOLD := hide (unhide HL).old
  obtain ⟨S', k1, k2, k3⟩ := hst
  have q8' := (k2.block _ z3 (fun h => by have := unhide HOLD _ h; omega)).trans q8
  have q9' := (k2.block _ (by omega) (fun h => by have := unhide HOLD _ h; omega)).trans q9
  clear q8 q9 hb3 k1 k2 k3 z3
  go_wp2_with (first
    | (refine wpList_load_row rfl 30 (.tmp 8) rfl w2.heap.size rfl 30 _ (0, 0) _ q8' Tryd.underlying30 rfl hi1 ?_)
    | (refine wpList_store_row rfl 30 (.tmp 6) (.tmp 18) rfl w.heap.size _ rfl rfl 30 _ q9' hi1 hz1 ho1 ?_))
  exact bodyPost_ret (results_cell_row rfl _ _ w.heap.size _ _ _ _ rfl (setRow_heap _ _ _ _ _ _ q9') Tryd.underlying30 rfl hi1) rfl ⟨rfl, setRow_step (unhide HB3) (unhide HST) (unhide HOLD) w.heap.size (Nat.le_refl _) (by have := unhide Z3; omega) _⟩
set_option maxHeartbeats 1000000 in
set_option maxRecDepth 100000 in
theorem rclash_calls (b : Nat) (S : Nat → Prop) (ins : List (List UInt8)) (w : World) (hL : RLogAt w b S ins) :
    Calls Tryd.prog 10 #[.pointer (some ⟨b, 0, none⟩)] w fun e w' => e = .returned (.bool (decide (cnt ins < ins.length))) ∧ Below w.heap.size w w' := by
  obtain ⟨base, m, iv, D, val, h⟩ := hL
  obtain ⟨p, c, hiv⟩ : ∃ p c, iv = .slice p ins.length c := by
    rcases h.inp.2 with ⟨h1, h2⟩ | ⟨g, cap, cur, h1, _⟩
    · exact ⟨none, 0, by rw [h1, h2]⟩
    · exact ⟨_, _, h1⟩
  have l1 := h.obj
  rw [hiv] at l1
  have c0 : ∀ dd os, (Sort.grow (redrawn w dd) os).cell? ⟨b, 0, none⟩ = some (.slice p ins.length c) := fun dd os => by
    rw [cell_of_row _ _ _ _ _ _ (Below.at (below_regrown w dd os) (Array.getElem?_eq_some_iff.1 l1).1 l1)]; rfl
  have c1 : ∀ dd os, (Sort.grow (redrawn w dd) os).cell? ⟨b, 1, none⟩ = some (.map (some m)) := fun dd os => by
    rw [cell_of_row _ _ _ _ _ _ (Below.at (below_regrown w dd os) (Array.getElem?_eq_some_iff.1 l1).1 l1)]; rfl
  have k2 : ∀ dd os ty, (Builtin.len_ #[39] ty #[.map (some m)]).run Tryd.prog (Sort.grow (redrawn w dd) os) = .ok (.int .i64 (cnt ins)) (Sort.grow (redrawn w dd) os) := fun dd os ty => by
    rw [← h.size]; exact (map_at h.map ((below_regrown w dd os).block m h.map.lt)).len Tryd.underlying39 ty
  generalize cnt ins = CN at *
  generalize ins.length = LN at *
  clear h l1 hiv
  go_enter Tryd.func10, Tryd.ntmps10
  go_wp2_with fail
  refine wp_region_below mixed (by kernel_rfl) ?_
  quiet_step (fail)
  quiet_step (fail)
  quiet_step (fail)
  quiet_step (fail)
  quiet_step (fail)
  quiet_step (fail)
  quiet_step (fail)
  quiet_step (fail)
  quiet_step (fail)
  quiet_step (fail)
  quiet_step (fail)
  quiet_step (fail)
  quiet_step (fail)
  quiet_step (fail)
  quiet_step (fail)
  quiet_step (fail)
  refine wpQuiet_nil ?_
  intro w2 b2
  go_wp2
  go_ret
  exact ⟨rfl, b2⟩
end Go.Proofs.YtaclnlmmkcjjeaaDoor

namespace Go.Proofs.YtaclnlmmkcjjeaaDoor
open Go.RowKit
set_option linter.unusedSimpArgs false
set_option linter.unusedVariables false

theorem pBig1_inj {n m : Nat} (hn : n < 256) (hm : m < 256) (h : pBig n 1 = pBig m 1) : n = m := by
  have h0 := congrArg (fun l => l.getD 0 0) h
  simp [pBig] at h0
  have h1 := congrArg UInt8.toNat h0
  rw [UInt8.toNat_ofNat', UInt8.toNat_ofNat'] at h1
  omega
theorem pBig4_inj {n m : Nat} (hn : n < 4294967296) (hm : m < 4294967296) (h : pBig n 4 = pBig m 4) : n = m := by
  have g : ∀ i, i < 4 → n / 2 ^ (8 * (3 - i)) % 256 = m / 2 ^ (8 * (3 - i)) % 256 := fun i hi => by
    have h0 := congrArg (fun l => (l.getD i 0).toNat) h
    simp [pBig, hi] at h0
    exact h0
  have a := g 0 (by omega)
  have b := g 1 (by omega)
  have c := g 2 (by omega)
  have d := g 3 (by omega)
  simp at a b c d
  omega
theorem flatText_inj : ∀ (ps qs : List (List UInt8)), (∀ p ∈ ps, p.length < 4294967296) → (∀ q ∈ qs, q.length < 4294967296) → ps.flatMap pText4 = qs.flatMap pText4 → ps = qs
  | [], [], _, _, _ => rfl
  | [], q :: qs, _, _, h => by
    have := congrArg List.length h
    rw [List.flatMap_cons, List.length_append, pText4_length, List.flatMap_nil, List.length_nil] at this
    omega
  | p :: ps, [], _, _, h => by
    have := congrArg List.length h
    rw [List.flatMap_cons, List.length_append, pText4_length, List.flatMap_nil, List.length_nil] at this
    omega
  | p :: ps, q :: qs, hp, hq, h => by
    have e : ∀ l : List UInt8, pText4 l = pBig l.length 4 ++ l := fun _ => rfl
    rw [List.flatMap_cons, List.flatMap_cons, e, e, List.append_assoc, List.append_assoc] at h
    obtain ⟨h1, h2⟩ := List.append_inj h (by rw [pBig_length, pBig_length])
    have hl := pBig4_inj (hp p (by simp)) (hq q (by simp)) h1
    obtain ⟨h3, h4⟩ := List.append_inj h2 hl
    rw [h3, flatText_inj ps qs (fun x hx => hp x (by simp [hx])) (fun x hx => hq x (by simp [hx])) h4]
theorem pInput_inj {d e : Nat} {ps qs : List (List UInt8)} (hd : d < 256) (he : e < 256) (hp : ∀ p ∈ ps, p.length < 4294967296) (hq : ∀ q ∈ qs, q.length < 4294967296) (h : pInput d ps = pInput e qs) : d = e ∧ ps = qs := by
  unfold pInput at h
  obtain ⟨h1, h2⟩ := List.append_inj h (by rw [pBig_length, pBig_length])
  exact ⟨pBig1_inj hd he h1, flatText_inj ps qs hp hq h2⟩
end Go.Proofs.YtaclnlmmkcjjeaaDoor

namespace Go.Proofs.YtaclnlmmkcjjeaaDoor
open Go.RowKit
set_option linter.unusedSimpArgs false
set_option linter.unusedVariables false

/-- A letter's bytes are those of no other one. -/
theorem bytes_inj (x y : Lt) (hx : x.ok) (hy : y.ok) (x1 : x.se.length < 4294967296) (x2 : x.re.length < 4294967296) (x3 : x.bo.length < 4294967296) (y1 : y.se.length < 4294967296) (y2 : y.re.length < 4294967296) (y3 : y.bo.length < 4294967296) (h : x.bytes = y.bytes) : x = y := by
  unfold Lt.bytes at h
  obtain ⟨h1, h⟩ := List.append_inj h (by rw [pBig_length, pBig_length])
  obtain ⟨h2, h⟩ := List.append_inj h (by rw [pBig_length, pBig_length])
  obtain ⟨h3, h⟩ := List.append_inj h (by rw [pBig_length, pBig_length])
  have h4 := flatText_inj [x.se, x.re, x.bo] [y.se, y.re, y.bo] (by simp [x1, x2, x3]) (by simp [y1, y2, y3]) (by simpa using h)
  have f1 := pBig4_inj hx.fr hy.fr h1
  have f2 := pBig4_inj hx.no hy.no h2
  have f3 := pBig4_inj hx.tt hy.tt h3
  obtain ⟨a1, a2, a3, a4, a5, a6⟩ := x
  obtain ⟨b1, b2, b3, b4, b5, b6⟩ := y
  simp at f1 f2 f3 h4
  obtain ⟨g1, g2, g3⟩ := h4
  subst f1 f2 f3 g1 g2 g3
  rfl
set_option maxHeartbeats 2000000 in
set_option maxRecDepth 100000 in
theorem lplain_calls (x : Lt) (ok : x.ok) (h1 : x.se.length ≤ 4000000000) (h2 : x.re.length ≤ 4000000000) (h3 : x.bo.length ≤ 4000000000) (w : World) :
    Calls Tryd.prog 14 #[.agg x.cells] w fun e w' => e = .returned (.string (str x.bytes)) ∧ Below w.heap.size w w' := by
  unfold Lt.bytes
  have hb0 := (Below.refl w.heap.size w).alloc (Nat.le_refl _) (.cells x.cells 24)
  have q0 := al1 w (.cells x.cells 24)
  have L1 := pBig_length x.fr 4
  have L2 := pBig_length x.no 4
  have L3 := pBig_length x.tt 4
  have L4 := pText4_length x.se
  have L5 := pText4_length x.re
  have L6 := pText4_length x.bo
  have w1 := fun w => rbig_calls x.fr 4 (Nat.lt_trans ok.fr (by decide)) (by decide) (by decide) w
  have w2 := fun w => rbig_calls x.no 4 (Nat.lt_trans ok.no (by decide)) (by decide) (by decide) w
  have w3 := fun w => rbig_calls x.tt 4 (Nat.lt_trans ok.tt (by decide)) (by decide) (by decide) w
  have w4 := fun w => rtext3_calls x.se (by omega) w
  have w5 := fun w => rtext3_calls x.re (by omega) w
  have w6 := fun w => rtext3_calls x.bo (by omega) w
  obtain ⟨fr, no, tt, se, re, bo⟩ := x
  simp only [Lt.cells] at *
  generalize pBig fr 4 = P1 at *
  generalize pBig no 4 = P2 at *
  generalize pBig tt 4 = P3 at *
  generalize pText4 se = P4 at *
  generalize pText4 re = P5 at *
  generalize pText4 bo = P6 at *
  have a1 := append_str P1 P2
  have a2 : str (P1 ++ P2) ++ str P3 = str (P1 ++ (P2 ++ P3)) := by rw [append_str]; simp
  have a3 : str (P1 ++ (P2 ++ P3)) ++ str P4 = str (P1 ++ (P2 ++ (P3 ++ P4))) := by rw [append_str]; simp
  have a4 : str (P1 ++ (P2 ++ (P3 ++ P4))) ++ str P5 = str (P1 ++ (P2 ++ (P3 ++ (P4 ++ P5)))) := by rw [append_str]; simp
  have a5 : str (P1 ++ (P2 ++ (P3 ++ (P4 ++ P5)))) ++ str P6 = str (P1 ++ (P2 ++ (P3 ++ (P4 ++ (P5 ++ P6))))) := by rw [append_str]; simp
  have n1 : ¬ 9223372036854775807 < P1.length + P2.length := by omega
  have n2 : ¬ 9223372036854775807 < P1.length + P2.length + P3.length := by omega
  have n3 : ¬ 9223372036854775807 < P1.length + (P2.length + P3.length) + P4.length := by omega
  have n4 : ¬ 9223372036854775807 < P1.length + (P2.length + (P3.length + P4.length)) + P5.length := by omega
  have n5 : ¬ 9223372036854775807 < P1.length + (P2.length + (P3.length + (P4.length + P5.length))) + P6.length := by omega
  have C1 := hide w1
  have C2 := hide w2
  have C3 := hide w3
  have C4 := hide w4
  have C5 := hide w5
  have C6 := hide w6
  have o1 := ok.fr
  have o2 := ok.no
  have o3 := ok.tt
  simp only at o1 o2 o3
  have u1 : IntKind.u64.wrap (fr : Int) = (fr : Int) := by rw [IntKind.wrap_u64]; omega
  have u2 : IntKind.u64.wrap (no : Int) = (no : Int) := by rw [IntKind.wrap_u64]; omega
  have u3 : IntKind.u64.wrap (tt : Int) = (tt : Int) := by rw [IntKind.wrap_u64]; omega
  clear w1 w2 w3 w4 w5 w6 L1 L2 L3 L4 L5 L6 h1 h2 h3 ok
  go_enter Tryd.func14, Tryd.ntmps14
  go_wp2_with fail
  refine (unhide C1 _).mono ?_
  rintro e v1 ⟨rfl, b1⟩
  have q1 := Below.at b1 (by simp) q0
  have hb1 := hb0.trans (b1.mono hb0.size)
  have z1 := (Array.getElem?_eq_some_iff.1 q1).1
  have d1 := (sig_cell q1).1 1 _ rfl
  clear b1 q0 hb0
  go_wp2_with fail
  refine (unhide C2 _).mono ?_
  rintro e v2 ⟨rfl, b2⟩
  have q2 := Below.at b2 z1 q1
  have hb2 := hb1.trans (b2.mono hb1.size)
  have z2 := (Array.getElem?_eq_some_iff.1 q2).1
  have d2 := (sig_cell q2).1 2 _ rfl
  clear b2 q1 hb1 z1 d1
  go_wp2_with fail
  refine (unhide C3 _).mono ?_
  rintro e X ⟨rfl, b3⟩
  have q3 := Below.at b3 z2 q2
  have hb3 := hb2.trans (b3.mono hb2.size)
  have hzX := (Array.getElem?_eq_some_iff.1 q3).1
  have cg : ∀ j v, (#[Value.int .u32 (fr : Int), .int .u32 (no : Int), .int .u32 (tt : Int), .string (str se), .string (str re), .string (str bo)] : Array Value)[j]? = some v → ∀ d os, (Sort.grow (redrawn X d) os).cell? ⟨w.heap.size, j, none⟩ = some v := fun j v hv d os => by
    rw [(below_regrown X d os).cell (p := ⟨w.heap.size, j, none⟩) hzX]; exact (sig_cell q3).1 j v hv
  have c3 : ∀ d os, (Sort.grow (redrawn X d) os).cell? ⟨w.heap.size, 3, none⟩ = some (.string (str se)) := cg 3 _ rfl
  have c4 : ∀ d os, (Sort.grow (redrawn X d) os).cell? ⟨w.heap.size, 4, none⟩ = some (.string (str re)) := cg 4 _ rfl
  have c5 : ∀ d os, (Sort.grow (redrawn X d) os).cell? ⟨w.heap.size, 5, none⟩ = some (.string (str bo)) := cg 5 _ rfl
  have k4 := hide fun d os => Calls.regrown_of (w := X) (d := d) (os := os) (unhide C4 _)
  have k5 := hide fun d os => Calls.regrown_of (w := X) (d := d) (os := os) (unhide C5 _)
  have k6 := hide fun d os => Calls.regrown_of (w := X) (d := d) (os := os) (unhide C6 _)
  clear cg b3 q2 hb2 z2 d2 q3
  go_wp2_with fail
  refine wp_region_below mixed (by kernel_rfl) ?_
  quiet_step (fail)
  quiet_step (fail)
  quiet_step (fail)
  quiet_step (exact unhide k4 _ _)
  quiet_step (fail)
  quiet_step (fail)
  quiet_step (fail)
  quiet_step (exact unhide k5 _ _)
  quiet_step (fail)
  quiet_step (fail)
  quiet_step (fail)
  quiet_step (exact unhide k6 _ _)
  repeat (quiet_step (fail))
  refine wpQuiet_nil ?_
  intro w3 hb4
  go_wp2
  go_ret
  exact ⟨rfl, hb3.trans (hb4.mono hb3.size)⟩
/-- A letter's leaf. -/
def pLeaf (x : Lt) : List UInt8 := pOf 5 [x.bytes]
theorem pLeaf_length (x : Lt) : (pLeaf x).length = 32 := pOf_length _ _
set_option maxHeartbeats 2000000 in
set_option maxRecDepth 100000 in
theorem lleaf_calls (x : Lt) (ok : x.ok) (h1 : x.se.length ≤ 10000000) (h2 : x.re.length ≤ 10000000) (h3 : x.bo.length ≤ 10000000) (w : World) (tabs : Tabs w) :
    Calls Tryd.prog 8 #[.pointer none, .agg x.cells] w fun e w' => e = .returned (.agg (bc (pLeaf x))) ∧ Below w.heap.size w w' := by
  have cw := hide fun W => lwritten_calls x ok (by omega) (by omega) (by omega) W
  have hlen : x.bytes.length ≤ 100000000 := by unfold Lt.bytes; simp only [List.length_append, pBig_length, pText4_length]; omega
  have co := hide fun a cap W hs ht => ofNil_calls 5 (by decide) [x.bytes] (by simpa using hlen) (by simp) a cap W hs ht
  have hol := pOf_length 5 [x.bytes]
  have hi := let_info x
  have e : pLeaf x = pOf 5 [x.bytes] := rfl
  rw [e]
  have hi1 := digInfo _ hol
  have hz1 := zeroSize _ hol
  have ho1 : (bc (pOf 5 [x.bytes])).all (·.oneCell') = true := bc_oneCell _
  have HT := hide tabs
  clear tabs
  generalize pOf 5 [x.bytes] = D at *
  generalize x.bytes = B at *
  generalize x.cells = C at *
  obtain ⟨q0, q1⟩ := al2 w (.cells C 24) (.cells (bc (List.replicate 32 0)) 30)
  have hb1 := bel2 w (.cells C 24) (.cells (bc (List.replicate 32 0)) 30)
  clear h1 h2 h3 hlen ok e
  go_enter Tryd.func8, Tryd.ntmps8
  go_wp2_with (refine wpList_load_row rfl 24 (.tmp 3) rfl w.heap.size rfl 24 C (0, 0) _ q0 Tryd.underlying24 rfl hi ?_)
  refine (unhide cw _).mono ?_
  rintro e w2 ⟨rfl, b2⟩
  have q2 := Below.at b2 (by simp) q1
  have hb2 : Below w.heap.size w w2 := hb1.trans (b2.mono hb1.size)
  have z2 := (Array.getElem?_eq_some_iff.1 q2).1
  clear q0 q1 b2 hb1
  go_wp2_with fail
  refine (unhide co _ _ _ (strsAt_one w2 B _) (((unhide HT).below hb2 (Nat.le_refl _)).below' ((Below.refl _ w2).alloc (Nat.le_refl _) _))).mono ?_
  rintro e w3 ⟨rfl, b3⟩
  have q3 := Below.at b3 (by simp; omega) ((Below.heap_alloc w2 (.cells #[.string (str B)] 9) _ z2).trans q2)
  have hb3 : Below w.heap.size w w3 := (hb2.alloc hb2.size _).trans (b3.mono (by simp; omega))
  clear q2 b3 hb2
  go_wp2_with (refine wpList_store_row rfl 30 (.tmp 4) (.tmp 9) rfl (w.heap.size + 1) _ rfl rfl 30 _ q3 hi1 hz1 ho1 ?_)
  exact bodyPost_ret (results_cell_row rfl _ _ (w.heap.size + 1) _ _ _ _ rfl (setRow_heap _ _ _ _ _ _ q3) Tryd.underlying30 rfl hi1) rfl ⟨rfl, below_setRow hb3 (by omega) _⟩
set_option maxHeartbeats 2000000 in
set_option maxRecDepth 100000 in
theorem lrleafQ_calls (x : Lt) (ok : x.ok) (h1 : x.se.length ≤ 10000000) (h2 : x.re.length ≤ 10000000) (h3 : x.bo.length ≤ 10000000) (b : Nat) (S : Nat → Prop) (ins : List (List UInt8)) (hin : ins.length < 1000000) (w : World) (hL : RLogAt w b S ins) :
    Calls Tryd.prog 7 #[.pointer (some ⟨b, 0, none⟩), .agg x.cells] w fun e w' => e = .returned (.agg (bc (pLeaf x))) ∧ RStep b S (rnoted (pInput 5 [x.bytes]) ins) w w' := by
  have cw := hide fun W => lplain_calls x ok (by omega) (by omega) (by omega) W
  have hlen : x.bytes.length ≤ 100000000 := by unfold Lt.bytes; simp only [List.length_append, pBig_length, pText4_length]; omega
  have co := hide fun a cap W hs hl => rof_calls 5 (by decide) [x.bytes] (by simpa using hlen) (by simp) a cap b S ins hin W hs hl
  have HL := hide hL
  have hol := pOf_length 5 [x.bytes]
  have hi := let_info x
  have e : pLeaf x = pOf 5 [x.bytes] := rfl
  rw [e]
  have hi1 := digInfo _ hol
  have hz1 := zeroSize _ hol
  have ho1 : (bc (pOf 5 [x.bytes])).all (·.oneCell') = true := bc_oneCell _
  generalize pOf 5 [x.bytes] = D at *
  obtain ⟨I, hI⟩ : ∃ I, pInput 5 [x.bytes] = I := ⟨_, rfl⟩
  rw [hI] at co ⊢
  clear hI hL
  generalize x.bytes = B at *
  generalize x.cells = C at *
  obtain ⟨q0, q1⟩ := al2 w (.cells C 24) (.cells (bc (List.replicate 32 0)) 30)
  have hb1 := bel2 w (.cells C 24) (.cells (bc (List.replicate 32 0)) 30)
  clear h1 h2 h3 hlen ok e
  go_enter Tryd.func7, Tryd.ntmps7
  go_wp2_with (refine wpList_load_row rfl 24 (.tmp 3) rfl w.heap.size rfl 24 C (0, 0) _ q0 Tryd.underlying24 rfl hi ?_)
  refine (unhide cw _).mono ?_
  rintro e w2 ⟨rfl, b2⟩
  have q2 := Below.at b2 (by simp) q1
  have hb2 : Below w.heap.size w w2 := hb1.trans (b2.mono hb1.size)
  have z2 := (Array.getElem?_eq_some_iff.1 q2).1
  clear q0 q1 b2 hb1
  go_wp2_with fail
  have hb3 : Below w.heap.size w (w2.alloc (.cells #[.string (str B)] 9)) := hb2.alloc hb2.size _
  refine (unhide co _ _ _ (strsAt_one w2 B _) ((unhide HL).below hb3)).mono ?_
  rintro e w3 ⟨rfl, hst⟩
  have HST := hide hst
  have HOLD := hide (unhide HL).old
  have HB3 := hide hb3
  obtain ⟨S', k1, k2, k3⟩ := hst
  have q3 := (k2.block (w.heap.size + 1) (by rw [World.size_alloc]; omega) (fun h => by have := unhide HOLD _ h; omega)).trans ((Below.heap_alloc w2 (.cells #[.string (str B)] 9) _ z2).trans q2)
  have Z2 := hide z2
  clear q2 hb2 hb3 k1 k2 k3
  go_wp2_with (refine wpList_store_row rfl 30 (.tmp 4) (.tmp 9) rfl (w.heap.size + 1) _ rfl rfl 30 _ q3 hi1 hz1 ho1 ?_)
  exact bodyPost_ret (results_cell_row rfl _ _ (w.heap.size + 1) _ _ _ _ rfl (setRow_heap _ _ _ _ _ _ q3) Tryd.underlying30 rfl hi1) rfl ⟨rfl, setRow_step (unhide HB3) (unhide HST) (unhide HOLD) (w.heap.size + 1) (by omega) (by rw [World.size_alloc]; have := unhide Z2; omega) _⟩
end Go.Proofs.YtaclnlmmkcjjeaaDoor

namespace Go.Proofs.YtaclnlmmkcjjeaaDoor
open Go Go.RowKit
set_option linter.unusedSimpArgs false
set_option linter.unusedVariables false

theorem keyLits_ints' {P : Program} (t e : TypeId) (n : Nat) (k : IntKind) (hu : P.underlying t = some (.array n e)) (he : P.underlying e = some (.int k)) (hce : P.cellsOf e = 1) (hct : P.cellsOf t = n)
    (zs : List Int) (hl : zs.length = n) (hw : ∀ z ∈ zs, (Lit.int k z).wf = true) : P.keyLits 2 t (zs.map (Value.int k)) = some (zs.map (Lit.int k)) := by
  unfold Program.keyLits
  simp only [hu]
  rw [if_pos (by simp [hl, hct])]
  rw [mapM_some _ (fun i => [Lit.int k (zs.getD i 0)]) _ (fun i hi => ?_)]
  · have e : ((List.range n).map fun i => [Lit.int k (zs.getD i 0)]).flatten = zs.map (Lit.int k) := by
      apply List.ext_getElem?
      intro i
      have e1 : ((List.range n).map fun i => [Lit.int k (zs.getD i 0)]).flatten = (List.range n).map fun i => Lit.int k (zs.getD i 0) := by
        induction (List.range n) with
        | nil => rfl
        | cons x l ih => rw [List.map_cons, List.flatten_cons, ih]; rfl
      rw [e1]
      by_cases hi : i < n
      · simp [hi, hl]
      · simp [hi, hl]
    show some _ = some _
    rw [← e]
  · have hi' : i < zs.length := by rw [hl]; exact List.mem_range.1 hi
    rw [hce, Nat.mul_one, List.drop_eq_getElem_cons (by simpa using hi')]
    unfold Program.keyLits
    simp only [he]
    have hz : (Lit.int k zs[i]).wf = true := hw _ (List.getElem_mem _)
    simp [hz, hi']
theorem dig_lits (d : List UInt8) (hd : d.length = 32) : Tryd.prog.keyLits 2 30 (bc d).toList = some ((d.map fun b => (b.toNat : Int)).map (Lit.int .u8)) := by
  have := keyLits_ints' (P := Tryd.prog) 30 5 32 .u8 Tryd.underlying30 Tryd.underlying5 (by kernel_rfl) (by kernel_rfl) (d.map fun b => (b.toNat : Int)) (by simpa using hd) (fun z hz => by
    obtain ⟨b, _, rfl⟩ := List.mem_map.1 hz
    have := b.toNat_lt
    simp [Lit.wf, IntKind.min, IntKind.max, IntKind.signed, IntKind.bits]; omega)
  rw [← this]; simp [bc, Lib.byteCells]; rfl
theorem dig_formed (d : List UInt8) (hd : d.length = 32) : (Value.agg (bc d)).formed Tryd.prog 30 = true := by
  simp only [Value.formed, Tryd.underlying30, bc_size, hd]; kernel_rfl
theorem lits_inj (a b : List UInt8) (h : (a.map fun b => (b.toNat : Int)).map (Lit.int .u8) = (b.map fun b => (b.toNat : Int)).map (Lit.int .u8)) : a = b := by
  rw [List.map_map, List.map_map] at h
  refine List.map_inj_right (f := fun b : UInt8 => Lit.int .u8 (b.toNat : Int)) (fun x y hxy => ?_) |>.1 h
  injection hxy with _ h2
  exact UInt8.toNat_inj.1 (by omega)
theorem dig_eq (a b : List UInt8) (ha : a.length = 32) (hb : b.length = 32) (w : World) : (binOp .eql 30 (.agg (bc a)) (.agg (bc b))).run Tryd.prog w = .ok (.bool (decide (a = b))) w := by
  obtain ⟨r, hr, hiff⟩ := run_equalIn_deep (P := Tryd.prog) (10000 - 2) 2 30 (by kernel_rfl) w 2 2 (.agg (bc a)) (.agg (bc b)) _ _ (dig_formed a ha) (dig_formed b hb) (dig_lits a ha) (dig_lits b hb)
  rw [show 10000 - 2 + 2 = 10000 by omega] at hr
  have : r = decide (a = b) := by
    by_cases h : a = b
    · rw [decide_eq_true h]; exact hiff.2 (by rw [h])
    · rw [decide_eq_false h]
      cases r with
      | false => rfl
      | true => exact absurd (lits_inj a b (hiff.1 rfl)) h
  rw [run_eql_struct, hr, this]; rfl
end Go.Proofs.YtaclnlmmkcjjeaaDoor

namespace Go.Proofs.YtaclnlmmkcjjeaaDoor
open Go.RowKit

theorem wpQuiet_load_mid {P : Program} {ops : Array Oper} {C : World → Prop} {Q : Act → Prop} {a : Act} {o : Oper} {rest : List Oper} (hw : Region.wanted o (yielded ops a.tmps) = true) (ty : TypeId) (x : Operand) (ho : o.op = .load ty x)
    (b off : Nat) (hx : a.eval x = .pointer (some ⟨b, off, none⟩)) (cs : List Value) (d : TypeDesc) (hc : ∀ w, C w → w.rangeAt b off cs)
    (hu : P.underlying ty = some d) (hd : d.isRow = true) (hi : (P.info? ty).map (·.size) = some cs.length)
    (h : wpQuiet P ops C Q rest (a.put o.dst (.agg cs.toArray))) : wpQuiet P ops C Q (o :: rest) a := by
  show if _ then _ else _
  rw [if_pos hw]
  refine ⟨.agg cs.toArray, fun w hC => ?_, h⟩
  have hl := run_loadVar_mid w b off ty cs d (hc w hC) hu hd hi
  unfold Oper.quietAt execOp
  simp only [ho, hx, Instr.loadAt, Instr.sureAddr, Sem.run_bind, Sem.run_pure, Result.andThen_ok, hl]
  exact ⟨rfl, rfl⟩
theorem wpQuiet_eql {P : Program} {ops : Array Oper} {C : World → Prop} {Q : Act → Prop} {a : Act} {o : Oper} {rest : List Oper} (hw : Region.wanted o (yielded ops a.tmps) = true) (t t' : TypeId) (x y : Operand) (ho : o.op = .binOp .eql t x y t')
    (u v : Array Value) (hx : a.eval x = .agg u) (hy : a.eval y = .agg v) (hgt : P.eqGuardType P.depth t = false) (b : Bool) (he : ∀ w, (binOp .eql t (.agg u) (.agg v)).run P w = .ok (.bool b) w)
    (h : wpQuiet P ops C Q rest (a.put o.dst (.bool b))) : wpQuiet P ops C Q (o :: rest) a := by
  show if _ then _ else _
  rw [if_pos hw]
  refine ⟨.bool b, fun w hC => ?_, h⟩
  have hg : (eqGuard .eql t x y (.agg u) (.agg v)).run P w = .ok () w := run_eqGuard_agg w .eql t x y u v hgt
  unfold Oper.quietAt execOp
  simp only [ho, hx, hy, Sem.run_bind, hg, Result.andThen_ok, he]
  exact ⟨rfl, rfl⟩
end Go.Proofs.YtaclnlmmkcjjeaaDoor

namespace Go.Proofs.YtaclnlmmkcjjeaaDoor
open Go.RowKit
set_option linter.unusedSimpArgs false
set_option linter.unusedVariables false

theorem wpList_store_newV {P : Program} {ops : Array Oper} {rest : List Oper} {op : Oper} {a : Act} {Q : Exit → Act → World → Prop} (hgd : op.guard = none) (ty : TypeId) (x y : Operand) (ho : op.op = .store ty x y)
    (W0 : World) (Z : Array Value) (t : TypeId) (D : Array Value) (hx : a.eval x = .pointer (some ⟨W0.heap.size, 0, none⟩)) (hy : a.eval y = .agg D)
    (hi : (P.info? ty).map (·.size) = some D.size) (hz : Z.size = D.size) (h1 : D.all (·.oneCell') = true)
    (h : ∀ w', w'.heap[W0.heap.size]? = some (.cells D t (0, 0)) → Below W0.heap.size W0 w' → w'.heap.size = W0.heap.size + 1 → wpList P ops Q rest (a.put op.dst undef) w') :
    wpList P ops Q (op :: rest) a (W0.alloc (.cells Z t)) := by
  refine wpList_store_row hgd ty x y ho W0.heap.size D hx hy t Z (al1 _ _) hi hz h1 ?_
  exact h _ (setRow_heap _ _ _ _ _ _ (al1 W0 (.cells Z t))) (below_setRow ((Below.refl _ _).alloc (Nat.le_refl _) _) (Nat.le_refl _) _) (by rw [setRow_size, World.size_alloc])
end Go.Proofs.YtaclnlmmkcjjeaaDoor
