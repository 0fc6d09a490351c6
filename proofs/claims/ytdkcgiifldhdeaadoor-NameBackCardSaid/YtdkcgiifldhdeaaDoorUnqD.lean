/-
  A QUOTE READ AGAIN BY THE DOCUMENT'S RULE: pure facts; an append of a slice's bytes.
-/
import Derived.Test.YtdkcgiifldhdeaaDoorUnqN
import Derived.Test.YtdkcgiifldhdeaaDoorBufB
namespace Go.Proofs.YtdkcgiifldhdeaaDoor
open Go.RowKit
set_option linter.unusedSimpArgs false
set_option linter.unusedVariables false

def DNone (s : List UInt8) (i : Nat) : Prop := ∀ n tail, NumOk n → s.drop i = qNum n ++ (tail ++ [34]) → False
def DPiece (s : List UInt8) (i : Nat) (p : List UInt8) (k : Nat) : Prop := ∀ n tail, NumOk n → s.drop i = qNum n ++ (tail ++ [34]) → p = numBytes n ∧ k = (qNum n).length
theorem rdD_split {s acc : List UInt8} {i : Nat} (h : RdD s i acc) (hi : i + 1 < s.length) (t : List UInt8) (ht : pQuote t = s) :
    ∃ (n : Nat) (ys : List Nat), NumOk n ∧ (∀ n ∈ ys, NumOk n) ∧ t = acc ++ (numBytes n ++ ys.flatMap numBytes) ∧ s.drop i = qNum n ++ (ys.flatMap qNum ++ [34]) := by
  obtain ⟨ys, h1, h2, h3⟩ := h t ht
  cases ys with
  | nil =>
    have := congrArg List.length h3
    simp at this; omega
  | cons n ys =>
    refine ⟨n, ys, h1 n (by simp), fun x hx => h1 x (by simp [hx]), h2, ?_⟩
    rw [h3, List.flatMap_cons, List.append_assoc]
theorem rdD_next {s acc p : List UInt8} {i k : Nat} (h : RdD s i acc) (hi : i + 1 < s.length) (hp : DPiece s i p k) : RdD s (i + k) (acc ++ p) := by
  intro t ht
  obtain ⟨n, ys, h1, h2, h3, h4⟩ := rdD_split h hi t ht
  obtain ⟨e1, e2⟩ := hp n _ h1 h4
  refine ⟨ys, h2, ?_, ?_⟩
  · rw [h3, e1, List.append_assoc]
  · rw [← List.drop_drop, h4, e2]; simp
theorem rdD_none {s acc : List UInt8} {i : Nat} (h : RdD s i acc) (hi : i + 1 < s.length) (hp : DNone s i) : ∀ t, pQuote t ≠ s := by
  intro t ht
  obtain ⟨n, ys, h1, h2, h3, h4⟩ := rdD_split h hi t ht
  exact hp n _ h1 h4
theorem rdD_end {s acc : List UInt8} {i : Nat} (h : RdD s i acc) (hi : s.length ≤ i + 1) : ∀ t, pQuote t = s → t = acc := by
  intro t ht
  obtain ⟨ys, h1, h2, h3⟩ := h t ht
  cases ys with
  | nil => rw [h2]; simp
  | cons n ys =>
    have := qNum_pos n (h1 n (by simp))
    have e := congrArg List.length h3
    rw [List.flatMap_cons, List.length_append, List.length_append, List.length_drop] at e
    simp at e; omega
theorem drop_getD (s : List UInt8) (i j : Nat) : (s.drop i).getD j 0 = s.getD (i + j) 0 := by
  rw [List.getD_eq_getElem?_getD, List.getD_eq_getElem?_getD, List.getElem?_drop]
theorem dp_plain (s : List UInt8) (i : Nat) (hi : i < s.length) (h : s.getD i 0 ≠ 92) : DPiece s i [s.getD i 0] 1 := by
  have hp := piece_plain (s.drop i) (by simp; omega) (by rw [drop_getD]; exact h)
  have e : (s.drop i).take 1 = [s.getD i 0] := by
    rw [List.drop_eq_getElem_cons hi, List.take_succ_cons, List.take_zero, List.getD_eq_getElem?_getD, List.getElem?_eq_getElem hi]; rfl
  rw [e] at hp
  exact fun n tail hn hl => hp.2.2 n _ hn hl
theorem dp_two (s : List UInt8) (i : Nat) (hi : i + 1 < s.length) (h0 : s.getD i 0 = 92) (h1 : s.getD (i + 1) 0 = 34 ∨ s.getD (i + 1) 0 = 92) : DPiece s i [s.getD (i + 1) 0] 2 := by
  have hp := piece_two (s.drop i) (by rw [List.length_drop]; omega) (by rw [drop_getD]; exact h0) (by rw [drop_getD]; exact h1)
  have e : ((s.drop i).drop 1).take 1 = [s.getD (i + 1) 0] := by
    rw [List.drop_drop, List.drop_eq_getElem_cons hi, List.take_succ_cons, List.take_zero, List.getD_eq_getElem?_getD, List.getElem?_eq_getElem hi]; rfl
  rw [e] at hp
  exact fun n tail hn hl => hp.2.2 n _ hn hl
theorem d_form (s : List UInt8) (i n : Nat) (tail : List UInt8) (kind : UInt8) (hn : NumOk n) (h : s.drop i = qNum n ++ (tail ++ [34])) (h0 : s.getD i 0 = 92) (h1 : s.getD (i + 1) 0 = kind) (hk : ¬ (kind = 34 ∨ kind = 92)) :
    ∃ H m, HexAll H ∧ H ≠ [] ∧ H.length ≤ 6 ∧ hexFold 0 H = m ∧ ((kind = 117 ∧ validRune m ∧ numBytes n = pUtf8 m) ∨ (kind = 120 ∧ m < 256 ∧ numBytes n = [UInt8.ofNat m])) ∧ s.drop (i + 2) = H ++ 59 :: (tail ++ [34]) ∧ (qNum n).length = H.length + 3 := by
  have e0 := drop_getD s i 0
  have e1' := drop_getD s i 1
  rw [Nat.add_zero, h0] at e0
  rw [h1] at e1'
  have hd : (s.drop i).drop 2 = s.drop (i + 2) := List.drop_drop
  rw [h] at e0 e1' hd
  rcases qNum_cases n hn with ⟨b, hb, e1, e2⟩ | ⟨b, hb, e1, e2⟩ | ⟨H, m, a1, a2, a3, a4, a5, e1, e2⟩ | ⟨H, m, a1, a2, a3, a4, a5, e1, e2⟩
  · exfalso; rw [e1] at e1'; simp at e1'; exact hk (by rw [← e1']; exact hb)
  · exfalso; rw [e1] at e0; simp at e0; exact hb e0
  · rw [e1] at e1' hd
    simp at e1' hd
    exact ⟨H, m, a1, a2, a3, a4, .inl ⟨e1'.symm, a5, e2⟩, hd.symm, by rw [e1]; simp⟩
  · rw [e1] at e1' hd
    simp at e1' hd
    exact ⟨H, m, a1, a2, a3, a4, .inr ⟨e1'.symm, a5, e2⟩, hd.symm, by rw [e1]; simp⟩
theorem hex_le (H T : List UInt8) (j : Nat) (h : HexAll ((H ++ 59 :: T).take j)) : j ≤ H.length := by
  apply Classical.byContradiction
  intro hc
  have hm : (59 : UInt8) ∈ (H ++ 59 :: T).take j := by
    rw [List.take_append]
    apply List.mem_append_right
    obtain ⟨d, hd⟩ : ∃ d, j - H.length = d + 1 := ⟨j - H.length - 1, by omega⟩
    rw [hd, List.take_succ_cons]; simp
  have := h 59 hm
  rw [hexv59] at this; omega
theorem hex_stop (H T : List UInt8) (j : Nat) (hH : HexAll H) (h : HexAll ((H ++ 59 :: T).take j)) (hc : ¬ hexv ((H ++ 59 :: T).getD j 0) < 16) : j = H.length := by
  have := hex_le H T j h
  apply Classical.byContradiction
  intro hne
  apply hc
  have hlt : j < H.length := by omega
  rw [List.getD_eq_getElem?_getD, List.getElem?_append_left hlt, List.getElem?_eq_getElem hlt]
  exact hH _ (List.getElem_mem _)
theorem dn_end (s : List UInt8) (i j : Nat) (kind : UInt8) (h0 : s.getD i 0 = 92) (h1 : s.getD (i + 1) 0 = kind) (hk : ¬ (kind = 34 ∨ kind = 92)) (hx : HexAll ((s.drop (i + 2)).take j)) (he : s.length ≤ i + 2 + j + 1) : DNone s i := by
  intro n tail hn h
  obtain ⟨H, m, a1, a2, a3, a4, a5, a6, a7⟩ := d_form s i n tail kind hn h h0 h1 hk
  have hl := congrArg List.length a6
  rw [List.length_drop] at hl
  simp at hl
  rw [a6] at hx
  have := hex_le _ _ _ hx
  omega
theorem dn_digit (s : List UInt8) (i j : Nat) (kind : UInt8) (h0 : s.getD i 0 = 92) (h1 : s.getD (i + 1) 0 = kind) (hk : ¬ (kind = 34 ∨ kind = 92)) (hx : HexAll ((s.drop (i + 2)).take j)) (hc : ¬ hexv (s.getD (i + 2 + j) 0) < 16) (h59 : s.getD (i + 2 + j) 0 ≠ 59) : DNone s i := by
  intro n tail hn h
  obtain ⟨H, m, a1, a2, a3, a4, a5, a6, a7⟩ := d_form s i n tail kind hn h h0 h1 hk
  rw [← drop_getD, a6] at hc h59
  rw [a6] at hx
  have := hex_stop _ _ _ a1 hx hc
  subst this
  apply h59
  rw [List.getD_eq_getElem?_getD, List.getElem?_append_right (Nat.le_refl _)]; simp
theorem dn_long (s : List UInt8) (i j : Nat) (kind : UInt8) (h0 : s.getD i 0 = 92) (h1 : s.getD (i + 1) 0 = kind) (hk : ¬ (kind = 34 ∨ kind = 92)) (hx : HexAll ((s.drop (i + 2)).take j)) (hj : 6 < j) : DNone s i := by
  intro n tail hn h
  obtain ⟨H, m, a1, a2, a3, a4, a5, a6, a7⟩ := d_form s i n tail kind hn h h0 h1 hk
  rw [a6] at hx
  have := hex_le _ _ _ hx
  omega
theorem d_semi (s : List UInt8) (i j n : Nat) (tail : List UInt8) (kind : UInt8) (hn : NumOk n) (h : s.drop i = qNum n ++ (tail ++ [34])) (h0 : s.getD i 0 = 92) (h1 : s.getD (i + 1) 0 = kind) (hk : ¬ (kind = 34 ∨ kind = 92)) (hx : HexAll ((s.drop (i + 2)).take j)) (h59 : s.getD (i + 2 + j) 0 = 59) :
    ∃ m, hexFold 0 ((s.drop (i + 2)).take j) = m ∧ 0 < j ∧ j ≤ 6 ∧ ((kind = 117 ∧ validRune m ∧ numBytes n = pUtf8 m) ∨ (kind = 120 ∧ m < 256 ∧ numBytes n = [UInt8.ofNat m])) ∧ (qNum n).length = j + 3 := by
  obtain ⟨H, m, a1, a2, a3, a4, a5, a6, a7⟩ := d_form s i n tail kind hn h h0 h1 hk
  rw [← drop_getD, a6] at h59
  rw [a6] at hx ⊢
  have := hex_stop _ _ _ a1 hx (by rw [h59, hexv59]; omega)
  subst this
  refine ⟨m, ?_, List.length_pos_iff.2 a2, a3, a5, a7⟩
  rw [List.take_left]; exact a4
theorem dn_zero (s : List UInt8) (i : Nat) (kind : UInt8) (h0 : s.getD i 0 = 92) (h1 : s.getD (i + 1) 0 = kind) (hk : ¬ (kind = 34 ∨ kind = 92)) (h59 : s.getD (i + 2) 0 = 59) : DNone s i := by
  intro n tail hn h
  obtain ⟨m, a1, a2, _⟩ := d_semi s i 0 n tail kind hn h h0 h1 hk (fun c hc => by simp at hc) h59
  omega
theorem dn_kind (s : List UInt8) (i j N : Nat) (kind : UInt8) (h0 : s.getD i 0 = 92) (h1 : s.getD (i + 1) 0 = kind) (hk : ¬ (kind = 34 ∨ kind = 92)) (hx : HexAll ((s.drop (i + 2)).take j)) (hN : N = hexFold 0 ((s.drop (i + 2)).take j)) (h59 : s.getD (i + 2 + j) 0 = 59)
    (hb : ¬ ((kind = 120 ∧ N ≤ 255) ∨ (kind = 117 ∧ N ≤ 1114111))) : DNone s i := by
  intro n tail hn h
  obtain ⟨m, a1, a2, a3, a4, a5⟩ := d_semi s i j n tail kind hn h h0 h1 hk hx h59
  rw [a1] at hN
  subst hN
  apply hb
  rcases a4 with ⟨e, hv, _⟩ | ⟨e, hv, _⟩
  · right; exact ⟨e, by unfold validRune at hv; omega⟩
  · left; exact ⟨e, by omega⟩
theorem dp_x (s : List UInt8) (i j N : Nat) (h0 : s.getD i 0 = 92) (h1 : s.getD (i + 1) 0 = 120) (hx : HexAll ((s.drop (i + 2)).take j)) (hN : N = hexFold 0 ((s.drop (i + 2)).take j)) (h59 : s.getD (i + 2 + j) 0 = 59) : DPiece s i [UInt8.ofNat N] (j + 3) := by
  intro n tail hn h
  obtain ⟨m, a1, a2, a3, a4, a5⟩ := d_semi s i j n tail 120 hn h h0 h1 (by decide) hx h59
  rw [a1] at hN
  subst hN
  rcases a4 with ⟨e, hv, _⟩ | ⟨e, hv, e2⟩
  · exact absurd e (by decide)
  · exact ⟨e2.symm, a5.symm⟩
theorem dp_u (s : List UInt8) (i j N : Nat) (h0 : s.getD i 0 = 92) (h1 : s.getD (i + 1) 0 = 117) (hx : HexAll ((s.drop (i + 2)).take j)) (hN : N = hexFold 0 ((s.drop (i + 2)).take j)) (h59 : s.getD (i + 2 + j) 0 = 59) : DPiece s i (pUtf8 N) (j + 3) := by
  intro n tail hn h
  obtain ⟨m, a1, a2, a3, a4, a5⟩ := d_semi s i j n tail 117 hn h h0 h1 (by decide) hx h59
  rw [a1] at hN
  subst hN
  rcases a4 with ⟨e, hv, e2⟩ | ⟨e, hv, _⟩
  · exact ⟨e2.symm, a5.symm⟩
  · exact absurd e (by decide)
theorem quote_no (s : List UInt8) (h : s.length < 2 ∨ s.getD 0 0 ≠ 34 ∨ s.getD (s.length - 1) 0 ≠ 34) : ∀ t, pQuote t ≠ s := by
  intro t ht
  rw [pQuote_nums] at ht
  generalize (nums t).flatMap qNum = m at ht
  subst ht
  rcases h with h | h | h
  · simp at h; omega
  · simp at h
  · apply h
    rw [List.getD_eq_getElem?_getD]
    simp
theorem hex_take (s : List UInt8) (i j : Nat) (hj : i + j < s.length) : (s.drop i).take (j + 1) = (s.drop i).take j ++ [s.getD (i + j) 0] := by
  rw [take_snoc' (s.drop i) j 0 (by rw [List.length_drop]; omega), drop_getD]
theorem hexAll_snoc (l : List UInt8) (c : UInt8) (h : HexAll l) (hc : hexv c < 16) : HexAll (l ++ [c]) := by
  intro x hx
  rcases List.mem_append.1 hx with hx | hx
  · exact h x hx
  · simp at hx; subst hx; exact hc
theorem pow16 (n j : Nat) (hj : j ≤ 7) (h : n < 16 ^ j) : n < 268435456 :=
  Nat.lt_of_lt_of_le h (Nat.pow_le_pow_right (by omega) hj)
theorem pow16_next (n j d : Nat) (h : n < 16 ^ j) (hd : d < 16) : 16 * n + d < 16 ^ (j + 1) := by
  rw [Nat.pow_succ]; omega
theorem wpList_append_m {ops : Array Oper} {rest : List Oper} {o : Oper} {a : Act} {Q : Exit → Act → World → Prop} (hgd : o.guard = none) (s x : Operand)
    (ho : o.op = .call { callee := .builtin .append, args := #[s, x], argTypes := #[40, 40] })
    (W : World) (B : Nat) (l : List UInt8) (v : Value) (hs : a.eval s = v) (w0 : World) (m : List UInt8) (g off cap : Nat) (hb : Buf W B l v w0)
    (hx : a.eval x = .slice (some ⟨g, off, none⟩) m.length cap) (hm : Bytes w0 g off m) (hlen : l.length + m.length ≤ 140737488355328)
    (h : ∀ v' w', Buf W B (l ++ m) v' w' → wpList Tryd.prog ops Q rest (a.put o.dst v') w') : wpList Tryd.prog ops Q (o :: rest) a w0 := by
  obtain ⟨i, hi, hz, h1, h2⟩ := byteInfo
  refine wpList_append_ownF _ hgd s x 40 ho B 5 i (.int .u8 0) 1 1 Tryd.underlying40 hi hz h1 h2 rfl (by decide) v l.length (Lib.byteCells l) hs hb.1 ⟨g, off, none⟩ m.length cap (Lib.byteCells m) hx (by simp [Lib.byteCells]) ?_ ?_ (by unfold maxLen; omega) (by omega) hb.2.2 ?_
  · intro j u hj
    have hjl : j < m.length := by
      have := (List.getElem?_eq_some_iff.1 hj).1; simpa [Lib.byteCells] using this
    have hu : u = .int .u8 ((m.getD j 0).toNat : Int) := by
      simp [Lib.byteCells, hjl] at hj; simp [hjl, hj]
    rw [show (⟨g, off, none⟩ : Addr).add j = ⟨g, off + j, none⟩ by unfold Addr.add; split <;> simp_all, hu]
    exact hm j hjl
  · intro u hu
    simp [Lib.byteCells] at hu
    obtain ⟨b, _, rfl⟩ := hu; rfl
  · intro v' w' ho' hg _
    refine h v' w' ?_
    have := hb.grown ho' hg
    unfold Buf
    rw [List.length_append, Lib.byteCells_append]
    exact this
theorem bytes_alloc (w : World) (m : List UInt8) (t : TypeId) : Bytes (w.alloc (.cells (bc m) t)) w.heap.size 0 m := by
  intro j hj
  have := bc_at m j hj
  rw [Nat.zero_add]
  obtain ⟨hh, e⟩ := Array.getElem?_eq_some_iff.1 this
  rw [List.getD_eq_getElem?_getD, List.getElem?_eq_getElem hj] at e
  go_simp
end Go.Proofs.YtdkcgiifldhdeaaDoor
