/-
  WHAT package payload's Read AND Same RETURN.
-/
import Derived.Test.YtlanplknendmaaaPayD
import Derived.Test.YtlanplknendmaaaLoadG
namespace Go.Proofs.Ytlanplknendmaaa
open Go.RowKit
set_option linter.unusedSimpArgs false
set_option linter.unusedVariables false

set_option maxRecDepth 100000 in
theorem pover_calls (l : List UInt8) (w : World) :
    Calls Try.prog 27 #[.string (str l)] w fun e w' => e = .returned (.pointer (some ⟨w.heap.size, 0, none⟩)) ∧ w' = w.alloc (.cells (⟨l, 0⟩ : Rd).cells 77) := by
  unfold Rd.cells
  simp only
  go_enter Try.func27, Try.ntmps27
  go_wp2
  go_ret
  exact ⟨rfl, rfl⟩
set_option maxHeartbeats 1000000 in
set_option maxRecDepth 100000 in
theorem pread_calls (l : List UInt8) (hl : l.length ≤ 4611686018427387904) (w : World) :
    Calls Try.prog 12 #[.string (str l)] w fun e w' => e = .returned (.tuple #[(pPRead l).1.val, .int .i64 (pPRead l).2]) ∧ Below w.heap.size w w' := by
  obtain ⟨r0, h0⟩ : ∃ r, (⟨l, 0⟩ : Rd) = r := ⟨_, rfl⟩
  have hl0 : r0.rest.length ≤ 4611686018427387904 := by rw [← h0]; exact hl
  have ko := pover_calls l
  unfold pPRead
  rw [h0] at ko ⊢
  have k1 := hide fun W (h : RdAt W w.heap.size r0) => ptake_calls _ r0 hl0 W h
  have k2 := hide fun W (h : RdAt W w.heap.size r0.pl.2) => rdend_calls _ r0.pl.2 W h
  have k3 := hide fun W => mayBe_calls r0.pl.1 (r0.pl.1.most_mono hl0 r0.pl_most) W
  have hb0 := (Below.refl w.heap.size w).alloc (Nat.le_refl _) (.cells r0.cells 77)
  have q0 : RdAt (w.alloc (.cells r0.cells 77)) w.heap.size r0 := al1 w _
  generalize r0.pl = P at *
  obtain ⟨p, r1⟩ := P
  simp only at *
  generalize r1.end' = E at *
  generalize p.right = R at *
  obtain ⟨Z, hZ⟩ : ∃ Z, (if E ≠ 0 then (Pl.no, E) else if R = true then (p, 0) else (Pl.no, 4)) = Z := ⟨_, rfl⟩
  rw [hZ]
  have HZ := hide hZ
  have Ko := hide ko
  clear ko hZ h0 hl0 hl
  go_enter Try.func12, Try.ntmps12
  go_wp2_with fail
  refine (unhide Ko _).mono ?_
  rintro e w0 ⟨rfl, h0⟩
  rw [← h0] at hb0 q0
  clear h0 Ko
  go_wp2_with fail
  refine (unhide k1 _ q0).mono ?_
  rintro e w1 ⟨rfl, R1, T1⟩
  have hb1 := T1.under hb0 (Nat.le_refl _)
  clear hb0 q0 T1 k1
  go_wp2_with fail
  refine (unhide k2 _ R1).mono ?_
  rintro e w2 ⟨rfl, rfl⟩
  clear R1 k2
  by_cases hE : E = 0
  · have hE' : (E != 0) = false := by simp [hE]
    have hc : ¬ E ≠ 0 := fun h => h hE
    have hA := unhide HZ
    rw [if_neg hc] at hA
    have HB := hide hA
    clear hE hc hA HZ
    go_wp2_with fail
    refine (unhide k3 _).mono ?_
    rintro e w3 ⟨rfl, b3⟩
    have hb3 := hb1.trans (b3.mono hb1.size)
    cases R with
    | false =>
      have hA := unhide HB
      rw [if_neg (by simp)] at hA
      subst hA
      go_wp2_with fail
      go_ret2
      exact ⟨rfl, hb3⟩
    | true =>
      have hA := unhide HB
      rw [if_pos rfl] at hA
      subst hA
      go_wp2_with fail
      go_ret2
      exact ⟨rfl, hb3⟩
  · have hE' : (E != 0) = true := by simp [hE]
    have hA := unhide HZ
    rw [if_pos hE] at hA
    subst hA
    clear hE
    go_wp2_with fail
    go_ret2
    exact ⟨rfl, hb1⟩
/-- Are both payloads, of one kind, with the same fields? -/
def pPSame : Pl → Pl → Bool
  | .tr o a b n, .tr o' a' b' n' => if o = o' then if a = a' then if b = b' then decide (n = n') else false else false else false
  | .sa a b, .sa a' b' => if a = a' then decide (b = b') else false
  | .de o a n, .de o' a' n' => if o = o' then if a = a' then decide (n = n') else false else false
  | _, _ => false
theorem pPSame_self (p : Pl) (h : p.tag ≠ 0) : pPSame p p = true := by
  cases p <;> simp_all [pPSame, Pl.tag]
theorem toList_eq (l m : List UInt8) : ((str l).toList = (str m).toList) = (l = m) := by rw [ByteArray.toList_eq, ByteArray.toList_eq, str_toList, str_toList]
set_option maxRecDepth 100000 in
theorem tr_eql (o : Nat) (a b : List UInt8) (n o' : Nat) (a' b' : List UInt8) (n' : Nat) (w : World) : (binOp .eql 44 (.agg #[.int .u32 (o : Int), .string (str a), .string (str b), .int .u64 (n : Int)]) (.agg #[.int .u32 (o' : Int), .string (str a'), .string (str b'), .int .u64 (n' : Int)])).run Try.prog w = .ok (.bool (pPSame (.tr o a b n) (.tr o' a' b' n'))) w := by
  unfold pPSame
  have s := toList_eq
  by_cases h1 : o = o'
  · subst h1
    by_cases h4 : n = n'
    · subst h4
      go_simp
      by_cases h2 : a = a' <;> by_cases h3 : b = b' <;> simp [h2, h3]
    · have e4 : ((n : Int) == (n' : Int)) = false := by simp; omega
      go_simp
  · have e1 : ((o : Int) == (o' : Int)) = false := by simp; omega
    go_simp
set_option maxRecDepth 100000 in
theorem sa_eql (a b a' b' : List UInt8) (w : World) : (binOp .eql 51 (.agg #[.string (str a), .string (str b)]) (.agg #[.string (str a'), .string (str b')])).run Try.prog w = .ok (.bool (pPSame (.sa a b) (.sa a' b'))) w := by
  unfold pPSame
  have s := toList_eq
  go_simp
  by_cases h2 : a = a' <;> by_cases h3 : b = b' <;> simp [h2, h3]
set_option maxRecDepth 100000 in
theorem de_eql (o : Nat) (a : List UInt8) (n o' : Nat) (a' : List UInt8) (n' : Nat) (w : World) : (binOp .eql 53 (.agg #[.int .u32 (o : Int), .string (str a), .int .u64 (n : Int)]) (.agg #[.int .u32 (o' : Int), .string (str a'), .int .u64 (n' : Int)])).run Try.prog w = .ok (.bool (pPSame (.de o a n) (.de o' a' n'))) w := by
  unfold pPSame
  have s := toList_eq
  by_cases h1 : o = o'
  · subst h1
    by_cases h4 : n = n'
    · subst h4
      go_simp
      by_cases h2 : a = a' <;> simp [h2]
    · have e4 : ((n : Int) == (n' : Int)) = false := by simp; omega
      go_simp
  · have e1 : ((o : Int) == (o' : Int)) = false := by simp; omega
    go_simp
set_option maxHeartbeats 2000000 in
set_option maxRecDepth 100000 in
theorem psame_calls (p q : Pl) (w : World) :
    Calls Try.prog 39 #[p.val, q.val] w fun e w' => e = .returned (.bool (pPSame p q)) ∧ Below w.heap.size w w' := by
  have h1 := as_tr p
  have h2 := as_sa p
  have h3 := as_de p
  have g1 := as_tr q
  have g2 := as_sa q
  have g3 := as_de q
  have hr0 := Below.refl w.heap.size w
  have hb2 := fun A B => bel2 w A B
  generalize hV : p.val = V at *
  generalize hU : q.val = U at *
  cases p with
  | no =>
    simp only [Pl.isTr, Pl.isSa, Pl.isDe, pPSame, Pl.trC, Pl.saC, Pl.deC] at h1 h2 h3 ⊢
    generalize trCells _ _ _ _ = C1 at *
    generalize saCells _ _ = C2 at *
    generalize deCells _ _ _ = C3 at *
    clear hV hU g1 g2 g3
    go_enter Try.func39, Try.ntmps39
    go_wp2
    go_ret
    exact ⟨rfl, hr0⟩
  | num =>
    simp only [Pl.isTr, Pl.isSa, Pl.isDe, pPSame, Pl.trC, Pl.saC, Pl.deC] at h1 h2 h3 ⊢
    generalize trCells _ _ _ _ = C1 at *
    generalize saCells _ _ = C2 at *
    generalize deCells _ _ _ = C3 at *
    clear hV hU g1 g2 g3
    go_enter Try.func39, Try.ntmps39
    go_wp2
    go_ret
    exact ⟨rfl, hr0⟩
  | tr o a b n =>
    simp only [Pl.isTr, Pl.isSa, Pl.isDe, Pl.trC, Pl.saC, Pl.deC] at h1 h2 h3 ⊢
    cases q with
    | no  =>
      simp only [Pl.isTr, Pl.isSa, Pl.isDe, Pl.trC, Pl.saC, Pl.deC] at g1 g2 g3 ⊢
      simp only [pPSame]
      unfold trCells at h1 g1
      clear g2
      generalize saCells _ _ = Dsa at h2
      clear g3
      generalize deCells _ _ _ = Dde at h3
      clear hV hU
      go_enter Try.func39, Try.ntmps39
      go_wp2
      go_ret
      exact ⟨rfl, hb2 _ _⟩
    | num  =>
      simp only [Pl.isTr, Pl.isSa, Pl.isDe, Pl.trC, Pl.saC, Pl.deC] at g1 g2 g3 ⊢
      simp only [pPSame]
      unfold trCells at h1 g1
      clear g2
      generalize saCells _ _ = Dsa at h2
      clear g3
      generalize deCells _ _ _ = Dde at h3
      clear hV hU
      go_enter Try.func39, Try.ntmps39
      go_wp2
      go_ret
      exact ⟨rfl, hb2 _ _⟩
    | tr o' a' b' n' =>
      simp only [Pl.isTr, Pl.isSa, Pl.isDe, Pl.trC, Pl.saC, Pl.deC] at g1 g2 g3 ⊢
      have he := tr_eql o a b n o' a' b' n'
      generalize pPSame _ _ = R at *
      unfold trCells at h1 g1
      clear g2
      generalize saCells _ _ = Dsa at h2
      clear g3
      generalize deCells _ _ _ = Dde at h3
      clear hV hU
      go_enter Try.func39, Try.ntmps39
      go_wp2
      go_ret
      exact ⟨rfl, hb2 _ _⟩
    | sa a' b' =>
      simp only [Pl.isTr, Pl.isSa, Pl.isDe, Pl.trC, Pl.saC, Pl.deC] at g1 g2 g3 ⊢
      simp only [pPSame]
      unfold trCells at h1 g1
      clear g2
      generalize saCells _ _ = Dsa at h2
      clear g3
      generalize deCells _ _ _ = Dde at h3
      clear hV hU
      go_enter Try.func39, Try.ntmps39
      go_wp2
      go_ret
      exact ⟨rfl, hb2 _ _⟩
    | de o' a' n' =>
      simp only [Pl.isTr, Pl.isSa, Pl.isDe, Pl.trC, Pl.saC, Pl.deC] at g1 g2 g3 ⊢
      simp only [pPSame]
      unfold trCells at h1 g1
      clear g2
      generalize saCells _ _ = Dsa at h2
      clear g3
      generalize deCells _ _ _ = Dde at h3
      clear hV hU
      go_enter Try.func39, Try.ntmps39
      go_wp2
      go_ret
      exact ⟨rfl, hb2 _ _⟩
  | sa a b =>
    simp only [Pl.isTr, Pl.isSa, Pl.isDe, Pl.trC, Pl.saC, Pl.deC] at h1 h2 h3 ⊢
    cases q with
    | no  =>
      simp only [Pl.isTr, Pl.isSa, Pl.isDe, Pl.trC, Pl.saC, Pl.deC] at g1 g2 g3 ⊢
      simp only [pPSame]
      unfold saCells at h2 g2
      clear g1
      generalize trCells _ _ _ _ = Dtr at h1
      clear g3
      generalize deCells _ _ _ = Dde at h3
      clear hV hU
      go_enter Try.func39, Try.ntmps39
      go_wp2
      go_ret
      exact ⟨rfl, hb2 _ _⟩
    | num  =>
      simp only [Pl.isTr, Pl.isSa, Pl.isDe, Pl.trC, Pl.saC, Pl.deC] at g1 g2 g3 ⊢
      simp only [pPSame]
      unfold saCells at h2 g2
      clear g1
      generalize trCells _ _ _ _ = Dtr at h1
      clear g3
      generalize deCells _ _ _ = Dde at h3
      clear hV hU
      go_enter Try.func39, Try.ntmps39
      go_wp2
      go_ret
      exact ⟨rfl, hb2 _ _⟩
    | tr o' a' b' n' =>
      simp only [Pl.isTr, Pl.isSa, Pl.isDe, Pl.trC, Pl.saC, Pl.deC] at g1 g2 g3 ⊢
      simp only [pPSame]
      unfold saCells at h2 g2
      clear g1
      generalize trCells _ _ _ _ = Dtr at h1
      clear g3
      generalize deCells _ _ _ = Dde at h3
      clear hV hU
      go_enter Try.func39, Try.ntmps39
      go_wp2
      go_ret
      exact ⟨rfl, hb2 _ _⟩
    | sa a' b' =>
      simp only [Pl.isTr, Pl.isSa, Pl.isDe, Pl.trC, Pl.saC, Pl.deC] at g1 g2 g3 ⊢
      have he := sa_eql a b a' b'
      generalize pPSame _ _ = R at *
      unfold saCells at h2 g2
      clear g1
      generalize trCells _ _ _ _ = Dtr at h1
      clear g3
      generalize deCells _ _ _ = Dde at h3
      clear hV hU
      go_enter Try.func39, Try.ntmps39
      go_wp2
      go_ret
      exact ⟨rfl, hb2 _ _⟩
    | de o' a' n' =>
      simp only [Pl.isTr, Pl.isSa, Pl.isDe, Pl.trC, Pl.saC, Pl.deC] at g1 g2 g3 ⊢
      simp only [pPSame]
      unfold saCells at h2 g2
      clear g1
      generalize trCells _ _ _ _ = Dtr at h1
      clear g3
      generalize deCells _ _ _ = Dde at h3
      clear hV hU
      go_enter Try.func39, Try.ntmps39
      go_wp2
      go_ret
      exact ⟨rfl, hb2 _ _⟩
  | de o a n =>
    simp only [Pl.isTr, Pl.isSa, Pl.isDe, Pl.trC, Pl.saC, Pl.deC] at h1 h2 h3 ⊢
    cases q with
    | no  =>
      simp only [Pl.isTr, Pl.isSa, Pl.isDe, Pl.trC, Pl.saC, Pl.deC] at g1 g2 g3 ⊢
      simp only [pPSame]
      unfold deCells at h3 g3
      clear g1
      generalize trCells _ _ _ _ = Dtr at h1
      clear g2
      generalize saCells _ _ = Dsa at h2
      clear hV hU
      go_enter Try.func39, Try.ntmps39
      go_wp2
      go_ret
      exact ⟨rfl, hb2 _ _⟩
    | num  =>
      simp only [Pl.isTr, Pl.isSa, Pl.isDe, Pl.trC, Pl.saC, Pl.deC] at g1 g2 g3 ⊢
      simp only [pPSame]
      unfold deCells at h3 g3
      clear g1
      generalize trCells _ _ _ _ = Dtr at h1
      clear g2
      generalize saCells _ _ = Dsa at h2
      clear hV hU
      go_enter Try.func39, Try.ntmps39
      go_wp2
      go_ret
      exact ⟨rfl, hb2 _ _⟩
    | tr o' a' b' n' =>
      simp only [Pl.isTr, Pl.isSa, Pl.isDe, Pl.trC, Pl.saC, Pl.deC] at g1 g2 g3 ⊢
      simp only [pPSame]
      unfold deCells at h3 g3
      clear g1
      generalize trCells _ _ _ _ = Dtr at h1
      clear g2
      generalize saCells _ _ = Dsa at h2
      clear hV hU
      go_enter Try.func39, Try.ntmps39
      go_wp2
      go_ret
      exact ⟨rfl, hb2 _ _⟩
    | sa a' b' =>
      simp only [Pl.isTr, Pl.isSa, Pl.isDe, Pl.trC, Pl.saC, Pl.deC] at g1 g2 g3 ⊢
      simp only [pPSame]
      unfold deCells at h3 g3
      clear g1
      generalize trCells _ _ _ _ = Dtr at h1
      clear g2
      generalize saCells _ _ = Dsa at h2
      clear hV hU
      go_enter Try.func39, Try.ntmps39
      go_wp2
      go_ret
      exact ⟨rfl, hb2 _ _⟩
    | de o' a' n' =>
      simp only [Pl.isTr, Pl.isSa, Pl.isDe, Pl.trC, Pl.saC, Pl.deC] at g1 g2 g3 ⊢
      have he := de_eql o a n o' a' n'
      generalize pPSame _ _ = R at *
      unfold deCells at h3 g3
      clear g1
      generalize trCells _ _ _ _ = Dtr at h1
      clear g2
      generalize saCells _ _ = Dsa at h2
      clear hV hU
      go_enter Try.func39, Try.ntmps39
      go_wp2
      go_ret
      exact ⟨rfl, hb2 _ _⟩
end Go.Proofs.Ytlanplknendmaaa
