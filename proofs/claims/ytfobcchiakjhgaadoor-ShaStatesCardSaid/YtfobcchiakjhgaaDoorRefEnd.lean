/-
  WHAT THE REFERENCE'S End RETURNS.
-/
import Derived.Test.YtfobcchiakjhgaaDoorRefConv
import Derived.Test.YtfobcchiakjhgaaDoorShaEnd
import Derived.Lib.BufSteps
namespace Go.Proofs.YtfobcchiakjhgaaDoor
open Go.RowKit
set_option linter.unusedSimpArgs false
set_option linter.unusedVariables false

/-- A slice of bytes that the call owns. -/
def Buf (W : World) (B : Nat) (l : List UInt8) (v : Value) (w : World) : Prop := Lib.OwnBuf B 5 v l.length (Lib.byteCells l) W w
theorem Buf.form {W w : World} {B : Nat} {l : List UInt8} {v : Value} (h : Buf W B l v w) (hl : l ≠ []) :
    ∃ g cap, v = .slice (some ⟨g, 0, none⟩) l.length cap ∧ l.length ≤ cap ∧ cap ≤ maxLen ∧ B ≤ g ∧ g < w.heap.size ∧ Bytes w g 0 l := by
  obtain ⟨h1, h2⟩ := h.1
  rcases h2 with ⟨_, h0⟩ | ⟨g, cap, cur, fz, rfl, hB, hg, _, hc, hm, hs, ht⟩
  · exact absurd (List.eq_nil_of_length_eq_zero h0) hl
  · refine ⟨g, cap, rfl, hc, hm, hB, (h.1.lt g rfl).2, fun j hj => ?_⟩
    have := h.1.cells (g := g) rfl j (.int .u8 ((l.getD j 0).toNat : Int)) (by simp [Lib.byteCells, hj])
    rw [show (⟨g, 0, none⟩ : Addr).add j = ⟨g, 0 + j, none⟩ by unfold Addr.add; split <;> simp_all] at this
    exact this
theorem byteInfo : ∃ i, Tryd.prog.info? 5 = some i ∧ i.zero = some (.int .u8 0) ∧ i.size = 1 ∧ i.bytes = 1 := by
  have e : (Tryd.prog.info? 5).map (fun i => (i.zero, i.size, i.bytes)) = some (some (.int .u8 0), 1, 1) := by kernel_rfl
  cases hq : Tryd.prog.info? 5 with
  | none => rw [hq] at e; cases e
  | some i =>
    rw [hq] at e
    simp only [Option.map_some, Option.some.injEq, Prod.mk.injEq] at e
    exact ⟨i, rfl, e.1, e.2.1, e.2.2⟩
theorem wpList_append_b {ops : Array Oper} {rest : List Oper} {o : Oper} {a : Act} {Q : Exit → Act → World → Prop} (hgd : o.guard = none) (s x : Operand)
    (ho : o.op = .call { callee := .builtin .append, args := #[s, x], argTypes := #[27, 27] })
    (W : World) (B : Nat) (l : List UInt8) (v : Value) (hs : a.eval s = v) (w0 : World) (c : Int) (b : UInt8) (hc : c = (b.toNat : Int)) (hb : Buf W B l v w0)
    (hx : a.eval x = .slice (some ⟨w0.heap.size, 0, none⟩) 1 1) (hlen : l.length + 1 ≤ 140737488355328)
    (h : ∀ g cap w', Buf W B (l ++ [b]) (.slice (some ⟨g, 0, none⟩) (l.length + 1) cap) w' → wpList Tryd.prog ops Q rest (a.put o.dst (.slice (some ⟨g, 0, none⟩) (l.length + 1) cap)) w') : wpList Tryd.prog ops Q (o :: rest) a (w0.alloc (.cells #[.int .u8 c] 5)) := by
  obtain ⟨i, hi, hz, h1, h2⟩ := byteInfo
  refine Lib.wpList_append_byte hgd s x 27 ho B 5 i Tryd.underlying27 hi hz h1 h2 v l.length _ hs W w0 c hb hx hlen ?_
  intro v' w' hb'
  have hb2 : Buf W B (l ++ [b]) v' w' := by
    subst hc
    unfold Buf
    rw [List.length_append]
    simpa [Lib.byteCells] using hb'
  obtain ⟨g, cap, rfl, _⟩ := hb2.form (by simp)
  rw [List.length_append] at hb2 ⊢
  exact h g cap w' hb2
theorem wpList_append_l {ops : Array Oper} {rest : List Oper} {o : Oper} {a : Act} {Q : Exit → Act → World → Prop} (hgd : o.guard = none) (s x : Operand)
    (ho : o.op = .call { callee := .builtin .append, args := #[s, x], argTypes := #[27, 27] })
    (W : World) (B : Nat) (hs : a.eval s = .slice none 0 0) (w0 : World) (m : List UInt8) (g off cap : Nat) (hb : Below B W w0) (hB : B ≤ w0.heap.size)
    (hx : a.eval x = .slice (some ⟨g, off, none⟩) m.length cap) (hm : Bytes w0 g off m) (hlen : m.length ≤ 140737488355328)
    (h : ∀ v' w', Buf W B m v' w' → wpList Tryd.prog ops Q rest (a.put o.dst v') w') : wpList Tryd.prog ops Q (o :: rest) a w0 := by
  obtain ⟨i, hi, hz, h1, h2⟩ := byteInfo
  have h0 : Lib.OwnBuf B 5 (.slice none 0 0) 0 [] W w0 := ⟨World.ownsRowF_nil _ _ _ _, hb, hB⟩
  refine wpList_append_ownF _ hgd s x 27 ho B 5 i (.int .u8 0) 1 1 Tryd.underlying27 hi hz h1 h2 rfl (by decide) (.slice none 0 0) 0 [] hs h0.1 ⟨g, off, none⟩ m.length cap (Lib.byteCells m) hx (by simp [Lib.byteCells]) ?_ ?_ (by unfold maxLen; omega) (by omega) hB ?_
  · intro j u hj
    have hjl : j < m.length := by
      have := (List.getElem?_eq_some_iff.1 hj).1; simpa [Lib.byteCells] using this
    have hu : u = .int .u8 ((m.getD j 0).toNat : Int) := by
      simp [Lib.byteCells, hjl] at hj; simp [hjl, hj]
    rw [show (⟨g, off, none⟩ : Addr).add j = ⟨g, off + j, none⟩ by unfold Addr.add; split <;> simp_all, hu]
    exact hm j hjl
  · intro u hu
    simp [Lib.byteCells] at hu
    obtain ⟨b, _, rfl⟩ := hu; rfl
  · intro v' w' ho' hg _
    refine h v' w' ?_
    have := h0.grown ho' hg
    simpa [Buf] using this

theorem flat_at (l : List (BitVec 32)) (k : Nat) : (l.flatMap wordBytes).getD k 0 = (wordBytes (l.getD (k / 4) 0)).getD (k % 4) 0 ∨ l.length ≤ k / 4 := by
  induction l generalizing k with
  | nil => right; simp
  | cons x l ih =>
    by_cases h : k < 4
    · left
      rw [List.flatMap_cons, List.getD_eq_getElem?_getD, List.getElem?_append_left (by rw [wordBytes_length]; exact h), Nat.div_eq_of_lt h, Nat.mod_eq_of_lt h, ← List.getD_eq_getElem?_getD]; rfl
    · rcases ih (k - 4) with h1 | h1
      · left
        rw [List.flatMap_cons, List.getD_eq_getElem?_getD, List.getElem?_append_right (by rw [wordBytes_length]; omega), wordBytes_length, ← List.getD_eq_getElem?_getD, h1, show (k - 4) % 4 = k % 4 by omega, show k / 4 = (k - 4) / 4 + 1 by omega]
        rfl
      · right; simp; omega
theorem noughts_test (n k : Nat) (h : k ≤ noughts n) : ((((n + 1 + k : Nat) : Int) % 64 != 56) = true ↔ k < noughts n) := by
  unfold noughts at *
  simp only [bne_iff_ne, ne_eq]
  omega
theorem pad_snoc (m : List UInt8) (k : Nat) : m ++ 128 :: List.replicate k 0 ++ [(0 : UInt8)] = m ++ 128 :: List.replicate (k + 1) 0 := by
  simp [List.replicate_succ']
set_option maxHeartbeats 2000000 in
set_option maxRecDepth 100000 in
theorem rend_calls (st : S8) (m : List UInt8) (count : BitVec 64) (gb off cap : Nat) (hl : m.length ≤ 140737488355000) (w : World) (hg : gb < w.heap.size) (hs : Bytes w gb off m) :
    Calls Tryd.prog 24 #[.agg st.cells, .slice (some ⟨gb, off, none⟩) m.length cap, .int .u64 (count.toNat : Int)] w fun e w' => e = .returned (.agg (bc (pEnd ⟨st, m, count⟩))) ∧ Below w.heap.size w w' := by
  generalize hE : pEnd ⟨st, m, count⟩ = res
  have hpl := padBytes_length m.length count
  have HE := hide hE
  have HPL := hide hpl
  obtain ⟨a, b, c, d, e, f, g, h⟩ := st
  have hargs : (S8.mk a b c d e f g h).cells = #[.int .u32 (a.toNat : Int), .int .u32 (b.toNat : Int), .int .u32 (c.toNat : Int), .int .u32 (d.toNat : Int), .int .u32 (e.toNat : Int), .int .u32 (f.toNat : Int), .int .u32 (g.toNat : Int), .int .u32 (h.toNat : Int)] := rfl
  rw [hargs]
  have q0 := (al2 w (.cells #[.int .u32 (a.toNat : Int), .int .u32 (b.toNat : Int), .int .u32 (c.toNat : Int), .int .u32 (d.toNat : Int), .int .u32 (e.toNat : Int), .int .u32 (f.toNat : Int), .int .u32 (g.toNat : Int), .int .u32 (h.toNat : Int)] 23) (.cells (bc (List.replicate 32 0)) 30)).1
  have q1 := (al2 w (.cells #[.int .u32 (a.toNat : Int), .int .u32 (b.toNat : Int), .int .u32 (c.toNat : Int), .int .u32 (d.toNat : Int), .int .u32 (e.toNat : Int), .int .u32 (f.toNat : Int), .int .u32 (g.toNat : Int), .int .u32 (h.toNat : Int)] 23) (.cells (bc (List.replicate 32 0)) 30)).2
  have hbX := bel2 w (.cells #[.int .u32 (a.toNat : Int), .int .u32 (b.toNat : Int), .int .u32 (c.toNat : Int), .int .u32 (d.toNat : Int), .int .u32 (e.toNat : Int), .int .u32 (f.toNat : Int), .int .u32 (g.toNat : Int), .int .u32 (h.toNat : Int)] 23) (.cells (bc (List.replicate 32 0)) 30)
  have hsX : ((w.alloc (.cells #[.int .u32 (a.toNat : Int), .int .u32 (b.toNat : Int), .int .u32 (c.toNat : Int), .int .u32 (d.toNat : Int), .int .u32 (e.toNat : Int), .int .u32 (f.toNat : Int), .int .u32 (g.toNat : Int), .int .u32 (h.toNat : Int)] 23)).alloc (.cells (bc (List.replicate 32 0)) 30)).heap.size = w.heap.size + 1 + 1 := by simp
  have hmX := hs.below hbX hg
  have hWb : Below (w.heap.size + 1 + 1) ((w.alloc (.cells #[.int .u32 (a.toNat : Int), .int .u32 (b.toNat : Int), .int .u32 (c.toNat : Int), .int .u32 (d.toNat : Int), .int .u32 (e.toNat : Int), .int .u32 (f.toNat : Int), .int .u32 (g.toNat : Int), .int .u32 (h.toNat : Int)] 23)).alloc (.cells (bc (List.replicate 32 0)) 30)) ((w.alloc (.cells #[.int .u32 (a.toNat : Int), .int .u32 (b.toNat : Int), .int .u32 (c.toNat : Int), .int .u32 (d.toNat : Int), .int .u32 (e.toNat : Int), .int .u32 (f.toNat : Int), .int .u32 (g.toNat : Int), .int .u32 (h.toNat : Int)] 23)).alloc (.cells (bc (List.replicate 32 0)) 30)) := Below.refl _ _
  have Q0 := hide q0
  have Q1 := hide q1
  have HBX := hide hbX
  have HSX := hide hsX
  generalize hN : noughts m.length = N at *
  have hN64 : N < 64 := by rw [← hN]; exact Nat.mod_lt _ (by decide)
  have HN := hide hN
  clear hargs hE hpl q0 q1 hbX hsX hN
  go_enter Tryd.func24, Tryd.ntmps24
  go_wp2_with (first
    | (at_builtin; refine wpList_append_l rfl (.tmp 12) (.tmp 13) rfl ((w.alloc (.cells #[.int .u32 (a.toNat : Int), .int .u32 (b.toNat : Int), .int .u32 (c.toNat : Int), .int .u32 (d.toNat : Int), .int .u32 (e.toNat : Int), .int .u32 (f.toNat : Int), .int .u32 (g.toNat : Int), .int .u32 (h.toNat : Int)] 23)).alloc (.cells (bc (List.replicate 32 0)) 30)) (w.heap.size + 1 + 1) rfl _ m gb off cap hWb (Nat.le_of_eq (unhide HSX).symm) rfl hmX (by omega) ?_; intro v1 w1 hbuf1)
    | (at_builtin; refine wpList_append_b rfl (.tmp 15) (.tmp 16) rfl ((w.alloc (.cells #[.int .u32 (a.toNat : Int), .int .u32 (b.toNat : Int), .int .u32 (c.toNat : Int), .int .u32 (d.toNat : Int), .int .u32 (e.toNat : Int), .int .u32 (f.toNat : Int), .int .u32 (g.toNat : Int), .int .u32 (h.toNat : Int)] 23)).alloc (.cells (bc (List.replicate 32 0)) 30)) (w.heap.size + 1 + 1) m v1 rfl w1 128 128 rfl hbuf1 rfl (by omega) ?_; intro g2 cap2 w2 hbuf2))
  generalize hX : ((w.alloc (.cells #[.int .u32 (a.toNat : Int), .int .u32 (b.toNat : Int), .int .u32 (c.toNat : Int), .int .u32 (d.toNat : Int), .int .u32 (e.toNat : Int), .int .u32 (f.toNat : Int), .int .u32 (g.toNat : Int), .int .u32 (h.toNat : Int)] 23)).alloc (.cells (bc (List.replicate 32 0)) 30)) = X at *
  clear hX hWb hmX hbuf1
  go_loopw [7] (fun v wr => ∃ (k g cap : Nat), k ≤ N ∧ v = .slice (some ⟨g, 0, none⟩) (m.length + 1 + k) cap ∧ Buf X (w.heap.size + 1 + 1) (m ++ 128 :: List.replicate k 0) v wr) (fun v _ => match v with | .slice _ n _ => m.length + 1 + N - n | _ => 0)
  case atStart => exact ⟨0, g2, cap2, by omega, rfl, hbuf2⟩
  case round =>
    clear hbuf2
    obtain ⟨k, g3, cap3, hk, rfl, hbuf⟩ := hrel
    have htest := noughts_test m.length k (by rw [unhide HN]; exact hk)
    rw [unhide HN] at htest
    have hlen : (m ++ 128 :: List.replicate k (0 : UInt8)).length = m.length + 1 + k := by simp; omega
    by_cases hlt : k < N
    · have hd := htest.2 hlt
      clear htest
      have Hlen := hide hlen
      generalize hn : m.length + 1 + k = n at *
      have hnb : n ≤ 140737488355200 := by omega
      have Hn := hide hn
      clear hlen hn
      go_wp2_with (at_builtin; refine wpList_append_b rfl (.tmp 22) (.tmp 23) rfl X (w.heap.size + 1 + 1) (m ++ 128 :: List.replicate k 0) _ rfl wr 0 0 rfl hbuf rfl (by rw [unhide Hlen]; omega) ?_; intro g4 cap4 w4 hbuf4)
      go_roundw
      case rel =>
        have e1 := unhide Hlen
        rw [pad_snoc, e1] at hbuf4
        have e3 : m.length + (k + 1) + 1 = m.length + 1 + (k + 1) := by omega
        have e4 : n + 1 = m.length + (k + 1) + 1 := by have := unhide Hn; omega
        refine ⟨k + 1, g4, cap4, by omega, ?_, ?_⟩
        · rw [e3]
        · rw [← e4]; exact hbuf4
      case measure =>
        have e1 := unhide Hlen
        have e2 := unhide Hn
        simp at e1 ⊢; omega
    · have hd : (((m.length + 1 + k : Nat) : Int) % 64 != 56) = false := by
        cases hq : (((m.length + 1 + k : Nat) : Int) % 64 != 56) with
        | false => rfl
        | true => exact absurd (htest.1 hq) hlt
      clear htest
      obtain rfl : k = N := by omega
      generalize hn0 : m.length + 1 + k = n0 at *
      have hn0b : n0 ≤ 140737488355200 := by omega
      generalize hL0 : m ++ 128 :: List.replicate k (0 : UInt8) = L0 at *
      have Hlen := hide hlen
      have Hn0 := hide hn0
      have HL0 := hide hL0
      have m8 := m8_wrap count
      clear hlen hn0 hL0
      go_wp2
      generalize hx : mul8 count = x
      have Hx := hide hx
      clear hx m8
      go_loopw [7, 9] (fun v i wr => ∃ (k g cap : Nat), k ≤ 8 ∧ i = .int .i64 k ∧ v = .slice (some ⟨g, 0, none⟩) (n0 + k) cap ∧ Buf X (w.heap.size + 1 + 1) (L0 ++ (be64 x).take k) v wr) (fun _ i _ => 8 - (intOf i).toNat)
      case atStart => exact ⟨0, g3, cap3, by omega, rfl, rfl, by simpa using hbuf⟩
      case round =>
        clear hbuf
        obtain ⟨k, g5, cap5, hk, rfl, rfl, hbuf⟩ := hrel
        have hLlen : (L0 ++ (be64 x).take k).length = n0 + k := by rw [List.length_append, unhide Hlen, List.length_take, be64_length]; omega
        by_cases hlt : k < 8
        · generalize hL : L0 ++ (be64 x).take k = L at *
          have HL := hide hL
          have HLlen := hide hLlen
          have hnk : n0 + k ≤ 140737488355210 := by omega
          obtain ⟨sh, hsh, es⟩ : ∃ sh : Nat, Hid (56 - 8 * k = sh) ∧ (56 : Int) - 8 * (k : Int) = (sh : Int) := ⟨_, rfl, by omega⟩
          have hs64 : sh ≤ 56 := by have := unhide hsh; omega
          have wu := wu64 (sh : Int) (by omega) (by omega)
          have hdk : decide ((k : Int) < 8) = true := by simp; omega
          clear hL hLlen
          go_wp2_with (at_builtin; refine wpList_append_b rfl (.tmp 31) (.tmp 39) rfl X (w.heap.size + 1 + 1) L _ rfl wr _ (UInt8.ofNat (x.toNat / 2 ^ sh)) (byte_mod _ _) hbuf rfl (by rw [unhide HLlen]; omega) ?_; intro g6 cap6 w6 hbuf6)
          go_roundw
          case rel =>
            have e1 := unhide HLlen
            refine ⟨k + 1, g6, cap6, by omega, by go_num, by rw [e1]; rfl, ?_⟩
            rw [take_snoc' (be64 x) k 0 (by rw [be64_length]; omega), be64_at x k hlt, unhide hsh, ← List.append_assoc, unhide HL]
            exact hbuf6
          case measure => simp [intOf]; omega
        · have hdk : decide ((k : Int) < 8) = false := by simp; omega
          have hLP : L0 ++ (be64 x).take k = m ++ padBytes m.length count := by
            rw [← unhide HL0, ← unhide Hx, padBytes, unhide HN, List.take_of_length_le (by rw [be64_length]; omega)]; simp
          rw [hLP] at hbuf hLlen
          generalize hLPg : m ++ padBytes m.length count = LP at *
          rw [← hLlen] at hbuf ⊢
          have hLb : LP.length ≤ 140737488355328 := by omega
          obtain ⟨g6, cap6, hv, h61, h62, h63, h64, h65⟩ := hbuf.form (by intro h0; rw [h0] at hLlen; simp at hLlen; omega)
          obtain ⟨rfl, rfl⟩ : g6 = g5 ∧ cap6 = cap5 := by
            simp at hv; exact ⟨hv.1.symm, hv.2.symm⟩
          have hbX := hbuf.2.1
          have hsX := unhide HSX
          have q0 := Below.at hbX (by omega) (unhide Q0)
          have q1 := Below.at hbX (by omega) (unhide Q1)
          have hbw : Below w.heap.size w wr := (unhide HBX).trans (hbX.mono (by omega))
          have hzr : w.heap.size + 1 + 1 ≤ wr.heap.size := by have := hbX.size; omega
          have HLPg := hide hLPg
          clear hbuf hv hLP hLPg hLlen hsX hbX
          have hi0 : (Tryd.prog.info? 23).map (·.size) = some (S8.mk a b c d e f g h).cells.size := by show _ = some 8; kernel_rfl
          go_wp2_with (refine wpList_load_row rfl 23 (.tmp 3) rfl w.heap.size rfl 23 (S8.mk a b c d e f g h).cells (0, 0) _ q0 Tryd.underlying23 rfl hi0 ?_)
          refine (after_calls ⟨a, b, c, d, e, f, g, h⟩ LP g6 0 cap6 h61 h62 wr h64 h65).mono ?_
          rintro en w5 ⟨off5, cap5, rfl, _, _, _, hb5⟩
          have q0' := Below.at hb5 (by omega) q0
          have q1' := Below.at hb5 (by omega) q1
          have hbw5 := hbw.trans (hb5.mono hbw.size)
          have hz5 := hb5.size
          generalize hT : pThrough ⟨a, b, c, d, e, f, g, h⟩ LP = T
          obtain ⟨T1, T2⟩ := T
          have hres : res = T1.bytes := by
            rw [← unhide HE, pEnd]; show (pThrough _ (m ++ padBytes m.length count)).1.bytes = _
            rw [unhide HLPg, hT]
          have Hres := hide hres
          have hi1 : (Tryd.prog.info? 23).map (·.size) = some T1.cells.size := by show _ = some 8; kernel_rfl
          have ho1 : T1.cells.all (·.oneCell') = true := wc_oneCell _
          clear hT hres
          go_wp2_with (refine wpList_store_row rfl 23 (.tmp 3) (.tmp 45) rfl w.heap.size _ rfl rfl 23 _ q0' hi1 rfl ho1 ?_)
          have z6 : (w5.setRow w.heap.size T1.cells).heap.size = w5.heap.size := setRow_size _ _ _
          have p0 : ((w5.setRow w.heap.size T1.cells).alloc (.cells (bc (List.replicate 32 0)) 30)).heap[w.heap.size]? = some (.cells T1.cells 23 (0, 0)) := by
            rw [Below.heap_alloc _ _ _ (by omega)]; exact setRow_heap _ _ _ _ _ _ q0'
          have p1 : ((w5.setRow w.heap.size T1.cells).alloc (.cells (bc (List.replicate 32 0)) 30)).heap[w.heap.size + 1]? = some (.cells (bc (List.replicate 32 0)) 30 (0, 0)) := by
            rw [Below.heap_alloc _ _ _ (by omega), setRow_other _ _ _ _ (by omega)]; exact q1'
          have pd : ((w5.setRow w.heap.size T1.cells).alloc (.cells (bc (List.replicate 32 0)) 30)).heap[w5.heap.size]? = some (.cells (bc (List.replicate 32 0)) 30 (0, 0)) := by
            rw [← z6]; exact al1 _ _
          have pb : Below w.heap.size w ((w5.setRow w.heap.size T1.cells).alloc (.cells (bc (List.replicate 32 0)) 30)) := (below_setRow hbw5 (Nat.le_refl _) _).alloc (by omega) _
          have hgd : w.heap.size + 1 + 1 ≤ w5.heap.size := by omega
          have hreslen : res.length = 32 := by rw [unhide Hres]; exact S8.bytes_length _
          have P0 := hide p0
          have P1 := hide p1
          have PD := hide pd
          have PB := hide pb
          have Hrl := hide hreslen
          clear p0 p1 pd pb z6 q0' q1' hbw5 hb5 hz5 hi1 ho1 hreslen
          generalize hgdg : w5.heap.size = gd at *
          clear hgdg
          go_loopw [11] (fun i wr => ∃ k : Nat, k ≤ 32 ∧ i = .int .i64 k ∧ Below w.heap.size w wr ∧ wr.heap[gd]? = some (.cells (bc (res.take k ++ List.replicate (32 - k) 0)) 30 (0, 0)) ∧ wr.heap[w.heap.size]? = some (.cells T1.cells 23 (0, 0)) ∧ wr.heap[w.heap.size + 1]? = some (.cells (bc (List.replicate 32 0)) 30 (0, 0))) (fun i _ => 32 - (intOf i).toNat)
          case atStart => exact ⟨0, by omega, rfl, unhide PB, unhide PD, unhide P0, unhide P1⟩
          case round =>
            clear P0 P1 PD PB q0 q1 hbw hzr
            obtain ⟨k, hk, rfl, hb, qd, q0, q1⟩ := hrel
            by_cases hlt : k < 32
            · obtain ⟨x, ex, cx⟩ : ∃ x : BitVec 32, Hid (T1.list.getD (k / 4) 0 = x) ∧ wr.cell? ⟨w.heap.size, k / 4, none⟩ = some (.int .u32 (x.toNat : Int)) := ⟨_, rfl, by rw [cell_of_row _ _ _ _ _ _ q0]; exact wc_at _ _ (by show _ < 8; omega)⟩
              have hz : List.replicate (32 - k) (0 : UInt8) = 0 :: List.replicate (32 - (k + 1)) 0 := by rw [show 32 - k = (32 - (k + 1)) + 1 by omega]; rfl
              rw [hz] at qd
              have hlk : (res.take k).length = k := by rw [List.length_take, unhide Hrl]; omega
              have cd : wr.cell? ⟨gd, k, none⟩ = some (.int .u8 (((res.take k ++ 0 :: List.replicate (32 - (k + 1)) 0).getD k 0).toNat : Int)) := by
                rw [cell_of_row _ _ _ _ _ _ qd]; exact bc_at _ _ (by rw [List.length_append, hlk]; simp)
              generalize hv : (res.take k ++ 0 :: List.replicate (32 - (k + 1)) 0).getD k 0 = v at cd
              have fz : wr.frozen? ⟨gd, k, none⟩ = false := frozen_of_row _ _ _ _ _ qd
              have hby : res.getD k 0 = UInt8.ofNat (x.toNat / 2 ^ (24 - 8 * (k % 4))) := by
                rw [unhide Hres, S8.bytes, (flat_at T1.list k).resolve_right (by show ¬ 8 ≤ k / 4; omega), unhide ex, wordBytes_at _ _ (Nat.mod_lt _ (by decide))]
              obtain ⟨qq, hqq, eqq⟩ : ∃ qq : Nat, Hid (k / 4 = qq) ∧ (k : Int) / 4 = (qq : Int) := ⟨_, rfl, by omega⟩
              obtain ⟨rr, hrr, err⟩ : ∃ rr : Nat, Hid (k % 4 = rr) ∧ (k : Int) % 4 = (rr : Int) := ⟨_, rfl, by omega⟩
              obtain ⟨sh, hsh, es⟩ : ∃ sh : Nat, Hid (24 - 8 * rr = sh) ∧ (24 : Int) - 8 * (rr : Int) = (sh : Int) := ⟨_, rfl, by have := unhide hrr; omega⟩
              rw [unhide hqq] at cx
              rw [unhide hrr, unhide hsh] at hby
              have bq : (0 : Int) ≤ qq ∧ (qq : Int) < 8 := by have := unhide hqq; omega
              have bk : (0 : Int) ≤ k ∧ (k : Int) < 32 := by omega
              have hs24 : sh ≤ 24 := by have := unhide hsh; omega
              have wu := wu64 (sh : Int) (by omega) (by omega)
              have hdk : decide ((k : Int) < 32) = true := by simp; omega
              have Hby := hide hby
              have Qd := hide qd
              have Q00 := hide q0
              have Q11 := hide q1
              have Hlk := hide hlk
              clear hz hv hby qd q0 q1 hlk
              go_wp2
              go_roundw
              case rel =>
                refine ⟨k + 1, by omega, by go_num, hb.setCell (by show w.heap.size ≤ gd; omega) _, ?_, ?_, ?_⟩
                · rw [byte_mod, ← unhide Hby, heap_setCell_same _ _ _ _ _ _ (unhide Qd), bc_set _ _ _ _ _ (unhide Hlk).symm, take_snoc' _ _ 0 (by rw [unhide Hrl]; omega)]
                · rw [heap_setCell_other _ _ _ _ (by show _ ≠ gd; omega)]; exact unhide Q00
                · rw [heap_setCell_other _ _ _ _ (by show _ ≠ gd; omega)]; exact unhide Q11
              case measure => simp [intOf]; omega
            · have hdk : decide ((k : Int) < 32) = false := by simp; omega
              have qd' : wr.heap[gd]? = some (.cells (bc res) 30 (0, 0)) := by
                rw [qd, show k = 32 by omega, List.take_of_length_le (by rw [unhide Hrl]; omega)]; simp
              have hil : (Tryd.prog.info? 30).map (·.size) = some (bc res).size := by rw [bc_size, unhide Hrl]; kernel_rfl
              have ho1 := bc_oneCell res
              have hsz : (bc (List.replicate 32 (0 : UInt8))).size = (bc res).size := by rw [bc_size, bc_size, unhide Hrl]; rfl
              clear qd q0
              go_wp2_with (first
                | (refine wpList_load_row rfl 30 (.tmp 10) rfl gd rfl 30 _ (0, 0) _ qd' Tryd.underlying30 rfl hil ?_)
                | (refine wpList_store_row rfl 30 (.tmp 6) (.tmp 64) rfl (w.heap.size + 1) _ rfl rfl 30 _ q1 hil hsz ho1 ?_))
              exact bodyPost_ret (results_cell_row rfl _ _ (w.heap.size + 1) _ _ _ _ rfl (setRow_heap _ _ _ _ _ _ q1) Tryd.underlying30 rfl hil) rfl ⟨rfl, below_setRow hb (by simp) _⟩
end Go.Proofs.YtfobcchiakjhgaaDoor
