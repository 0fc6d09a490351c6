/-
  WHAT package payload's fields AND Bytes RETURN.
-/
import Derived.Test.YtlanplknendmaaaPayB
import Derived.Test.YtlanplknendmaaaWireText
namespace Go.Proofs.Ytlanplknendmaaa
open Go.RowKit
set_option linter.unusedSimpArgs false
set_option linter.unusedVariables false

set_option maxHeartbeats 2000000 in
set_option maxRecDepth 100000 in
theorem fields_calls (p : Pl) (ok : p.ok) (hp : p.most 4000000000) (w : World) :
    Calls Try.prog 24 #[p.val] w fun e w' => e = .returned (.string (str p.fields)) ∧ Below w.heap.size w w' := by
  have h1 := as_tr p
  have h2 := as_sa p
  have h3 := as_de p
  generalize hV : p.val = V at *
  have hr0 := Below.refl w.heap.size w
  cases p with
  | no =>
    simp only [Pl.isTr, Pl.isSa, Pl.isDe, Pl.fields, Pl.trC, Pl.saC, Pl.deC] at *
    generalize trCells _ _ _ _ = C1 at *
    generalize saCells _ _ = C2 at *
    generalize deCells _ _ _ = C3 at *
    clear hV
    go_enter Try.func24, Try.ntmps24
    go_wp2
    go_ret
    exact ⟨rfl, hr0⟩
  | num =>
    simp only [Pl.isTr, Pl.isSa, Pl.isDe, Pl.fields, Pl.trC, Pl.saC, Pl.deC] at *
    generalize trCells _ _ _ _ = C1 at *
    generalize saCells _ _ = C2 at *
    generalize deCells _ _ _ = C3 at *
    clear hV
    go_enter Try.func24, Try.ntmps24
    go_wp2
    go_ret
    exact ⟨rfl, hr0⟩
  | tr o a b n =>
    simp only [Pl.isTr, Pl.isSa, Pl.isDe, Pl.fields, Pl.trC, Pl.saC, Pl.deC] at *
    have ok := ok
    have hp := hp
    have ok1 := ok.1
    have ok2 := ok.2
    have hp1 := hp.1
    have hp2 := hp.2
    have L1 := pBig_length o 4
    have w1 := fun w => wword_calls o ok1 w
    have L2 := pText4_length a
    have w2 := fun w => wtext_calls a (by omega) w
    have L3 := pText4_length b
    have w3 := fun w => wtext_calls b (by omega) w
    have L4 := pBig_length n 8
    have w4 := fun w => wlong_calls n w
    generalize pBig o 4 = P1 at *
    generalize pText4 a = P2 at *
    generalize pText4 b = P3 at *
    generalize pBig n 8 = P4 at *
    have a1 := append_str P1 P2
    have n1 : ¬ 9223372036854775807 < P1.length + P2.length := by omega
    have a2 : str (P1 ++ P2) ++ str P3 = str (P1 ++ (P2 ++ P3)) := by rw [append_str]; simp
    have n2 : ¬ 9223372036854775807 < P1.length + P2.length + P3.length := by omega
    have a3 : str (P1 ++ (P2 ++ P3)) ++ str P4 = str (P1 ++ (P2 ++ (P3 ++ P4))) := by rw [append_str]; simp
    have n3 : ¬ 9223372036854775807 < P1.length + (P2.length + P3.length) + P4.length := by omega
    have hb0 := (Below.refl w.heap.size w).alloc (Nat.le_refl _) (.cells #[.int .u32 (o : Int), .string (str a), .string (str b), .int .u64 (n : Int)] 44)
    have q0 := al1 w (.cells #[.int .u32 (o : Int), .string (str a), .string (str b), .int .u64 (n : Int)] 44)
    have HX0 := hide (rfl : w.alloc (.cells #[.int .u32 (o : Int), .string (str a), .string (str b), .int .u64 (n : Int)] 44) = w.alloc (.cells #[.int .u32 (o : Int), .string (str a), .string (str b), .int .u64 (n : Int)] 44))
    generalize hX : w.alloc (.cells #[.int .u32 (o : Int), .string (str a), .string (str b), .int .u64 (n : Int)] 44) = X at *
    clear HX0
    have hzX : w.heap.size < X.heap.size := (Array.getElem?_eq_some_iff.1 q0).1
    have cg : ∀ j v, (#[.int .u32 (o : Int), .string (str a), .string (str b), .int .u64 (n : Int)] : Array Value)[j]? = some v → ∀ d os, (Sort.grow (redrawn X d) os).cell? ⟨w.heap.size, j, none⟩ = some v := fun j v hv d os => by
      rw [(below_regrown X d os).cell (p := ⟨w.heap.size, j, none⟩) hzX]; exact (sig_cell q0).1 j v hv
    have c1 : ∀ d os, (Sort.grow (redrawn X d) os).cell? ⟨w.heap.size, 0, none⟩ = some (.int .u32 (o : Int)) := cg 0 _ rfl
    have c2 : ∀ d os, (Sort.grow (redrawn X d) os).cell? ⟨w.heap.size, 1, none⟩ = some (.string (str a)) := cg 1 _ rfl
    have c3 : ∀ d os, (Sort.grow (redrawn X d) os).cell? ⟨w.heap.size, 2, none⟩ = some (.string (str b)) := cg 2 _ rfl
    have c4 : ∀ d os, (Sort.grow (redrawn X d) os).cell? ⟨w.heap.size, 3, none⟩ = some (.int .u64 (n : Int)) := cg 3 _ rfl
    have k1 := hide fun d os => Calls.regrown_of (w := X) (d := d) (os := os) (w1 _)
    have k2 := hide fun d os => Calls.regrown_of (w := X) (d := d) (os := os) (w2 _)
    have k3 := hide fun d os => Calls.regrown_of (w := X) (d := d) (os := os) (w3 _)
    have k4 := hide fun d os => Calls.regrown_of (w := X) (d := d) (os := os) (w4 _)
    have HX := hide hX
    generalize saCells _ _ = D0 at *
    generalize deCells _ _ _ = D1 at *
    unfold trCells at h1
    clear cg hX hV q0 hp w1 w2 w3 w4 L1 L2 L3 L4 ok ok1 ok2 hp1 hp2
    go_enter Try.func24, Try.ntmps24
    go_wp2_with fail
    rw [unhide HX]
    refine wp_region_below mixed (by kernel_rfl) ?_
    quiet_step (fail)
    quiet_step (fail)
    quiet_step (exact unhide k1 _ _)
    quiet_step (fail)
    quiet_step (fail)
    quiet_step (exact unhide k2 _ _)
    quiet_step (fail)
    quiet_step (fail)
    quiet_step (fail)
    quiet_step (exact unhide k3 _ _)
    quiet_step (fail)
    quiet_step (fail)
    quiet_step (fail)
    quiet_step (exact unhide k4 _ _)
    repeat (quiet_step (fail))
    refine wpQuiet_nil ?_
    intro w3 hb3
    go_wp2
    go_ret
    exact ⟨rfl, hb0.trans (hb3.mono hb0.size)⟩
  | sa a b =>
    simp only [Pl.isTr, Pl.isSa, Pl.isDe, Pl.fields, Pl.trC, Pl.saC, Pl.deC] at *
    have hp := hp
    have hp1 := hp.1
    have hp2 := hp.2
    have L1 := pText4_length a
    have w1 := fun w => wtext_calls a (by omega) w
    have L2 := pText4_length b
    have w2 := fun w => wtext_calls b (by omega) w
    generalize pText4 a = P1 at *
    generalize pText4 b = P2 at *
    have a1 := append_str P1 P2
    have n1 : ¬ 9223372036854775807 < P1.length + P2.length := by omega
    have hb0 := (Below.refl w.heap.size w).alloc (Nat.le_refl _) (.cells #[.string (str a), .string (str b)] 51)
    have q0 := al1 w (.cells #[.string (str a), .string (str b)] 51)
    have HX0 := hide (rfl : w.alloc (.cells #[.string (str a), .string (str b)] 51) = w.alloc (.cells #[.string (str a), .string (str b)] 51))
    generalize hX : w.alloc (.cells #[.string (str a), .string (str b)] 51) = X at *
    clear HX0
    have hzX : w.heap.size < X.heap.size := (Array.getElem?_eq_some_iff.1 q0).1
    have cg : ∀ j v, (#[.string (str a), .string (str b)] : Array Value)[j]? = some v → ∀ d os, (Sort.grow (redrawn X d) os).cell? ⟨w.heap.size, j, none⟩ = some v := fun j v hv d os => by
      rw [(below_regrown X d os).cell (p := ⟨w.heap.size, j, none⟩) hzX]; exact (sig_cell q0).1 j v hv
    have c1 : ∀ d os, (Sort.grow (redrawn X d) os).cell? ⟨w.heap.size, 0, none⟩ = some (.string (str a)) := cg 0 _ rfl
    have c2 : ∀ d os, (Sort.grow (redrawn X d) os).cell? ⟨w.heap.size, 1, none⟩ = some (.string (str b)) := cg 1 _ rfl
    have k1 := hide fun d os => Calls.regrown_of (w := X) (d := d) (os := os) (w1 _)
    have k2 := hide fun d os => Calls.regrown_of (w := X) (d := d) (os := os) (w2 _)
    have HX := hide hX
    generalize trCells _ _ _ _ = D0 at *
    generalize deCells _ _ _ = D1 at *
    unfold saCells at h2
    clear cg hX hV q0 hp w1 w2 L1 L2 ok hp1 hp2
    go_enter Try.func24, Try.ntmps24
    go_wp2_with fail
    rw [unhide HX]
    refine wp_region_below mixed (by kernel_rfl) ?_
    quiet_step (fail)
    quiet_step (fail)
    quiet_step (exact unhide k1 _ _)
    quiet_step (fail)
    quiet_step (fail)
    quiet_step (exact unhide k2 _ _)
    repeat (quiet_step (fail))
    refine wpQuiet_nil ?_
    intro w3 hb3
    go_wp2
    go_ret
    exact ⟨rfl, hb0.trans (hb3.mono hb0.size)⟩
  | de o a n =>
    simp only [Pl.isTr, Pl.isSa, Pl.isDe, Pl.fields, Pl.trC, Pl.saC, Pl.deC] at *
    have ok := ok
    have hp := hp
    have ok1 := ok.1
    have ok2 := ok.2
    have hp1 : a.length ≤ 4000000000 := hp
    have L1 := pBig_length o 4
    have w1 := fun w => wword_calls o ok1 w
    have L2 := pText4_length a
    have w2 := fun w => wtext_calls a (by omega) w
    have L3 := pBig_length n 8
    have w3 := fun w => wlong_calls n w
    generalize pBig o 4 = P1 at *
    generalize pText4 a = P2 at *
    generalize pBig n 8 = P3 at *
    have a1 := append_str P1 P2
    have n1 : ¬ 9223372036854775807 < P1.length + P2.length := by omega
    have a2 : str (P1 ++ P2) ++ str P3 = str (P1 ++ (P2 ++ P3)) := by rw [append_str]; simp
    have n2 : ¬ 9223372036854775807 < P1.length + P2.length + P3.length := by omega
    have hb0 := (Below.refl w.heap.size w).alloc (Nat.le_refl _) (.cells #[.int .u32 (o : Int), .string (str a), .int .u64 (n : Int)] 53)
    have q0 := al1 w (.cells #[.int .u32 (o : Int), .string (str a), .int .u64 (n : Int)] 53)
    have HX0 := hide (rfl : w.alloc (.cells #[.int .u32 (o : Int), .string (str a), .int .u64 (n : Int)] 53) = w.alloc (.cells #[.int .u32 (o : Int), .string (str a), .int .u64 (n : Int)] 53))
    generalize hX : w.alloc (.cells #[.int .u32 (o : Int), .string (str a), .int .u64 (n : Int)] 53) = X at *
    clear HX0
    have hzX : w.heap.size < X.heap.size := (Array.getElem?_eq_some_iff.1 q0).1
    have cg : ∀ j v, (#[.int .u32 (o : Int), .string (str a), .int .u64 (n : Int)] : Array Value)[j]? = some v → ∀ d os, (Sort.grow (redrawn X d) os).cell? ⟨w.heap.size, j, none⟩ = some v := fun j v hv d os => by
      rw [(below_regrown X d os).cell (p := ⟨w.heap.size, j, none⟩) hzX]; exact (sig_cell q0).1 j v hv
    have c1 : ∀ d os, (Sort.grow (redrawn X d) os).cell? ⟨w.heap.size, 0, none⟩ = some (.int .u32 (o : Int)) := cg 0 _ rfl
    have c2 : ∀ d os, (Sort.grow (redrawn X d) os).cell? ⟨w.heap.size, 1, none⟩ = some (.string (str a)) := cg 1 _ rfl
    have c3 : ∀ d os, (Sort.grow (redrawn X d) os).cell? ⟨w.heap.size, 2, none⟩ = some (.int .u64 (n : Int)) := cg 2 _ rfl
    have k1 := hide fun d os => Calls.regrown_of (w := X) (d := d) (os := os) (w1 _)
    have k2 := hide fun d os => Calls.regrown_of (w := X) (d := d) (os := os) (w2 _)
    have k3 := hide fun d os => Calls.regrown_of (w := X) (d := d) (os := os) (w3 _)
    have HX := hide hX
    generalize trCells _ _ _ _ = D0 at *
    generalize saCells _ _ = D1 at *
    unfold deCells at h3
    clear cg hX hV q0 hp w1 w2 w3 L1 L2 L3 ok ok1 ok2 hp1
    go_enter Try.func24, Try.ntmps24
    go_wp2_with fail
    rw [unhide HX]
    refine wp_region_below mixed (by kernel_rfl) ?_
    quiet_step (fail)
    quiet_step (fail)
    quiet_step (exact unhide k1 _ _)
    quiet_step (fail)
    quiet_step (fail)
    quiet_step (exact unhide k2 _ _)
    quiet_step (fail)
    quiet_step (fail)
    quiet_step (fail)
    quiet_step (exact unhide k3 _ _)
    repeat (quiet_step (fail))
    refine wpQuiet_nil ?_
    intro w3 hb3
    go_wp2
    go_ret
    exact ⟨rfl, hb0.trans (hb3.mono hb0.size)⟩
theorem fields_len (p : Pl) (hp : p.most 4000000000) : p.fields.length ≤ 9000000000 := by
  cases p with
  | no => simp [Pl.fields]
  | num => simp [Pl.fields]
  | tr o a b n =>
    have h1 := hp.1
    have h2 := hp.2
    simp only [Pl.fields, List.length_append, pBig_length, pText4_length]
    omega
  | sa a b =>
    have h1 := hp.1
    have h2 := hp.2
    simp only [Pl.fields, List.length_append, pBig_length, pText4_length]
    omega
  | de o a n =>
    have h1 : a.length ≤ 4000000000 := hp
    simp only [Pl.fields, List.length_append, pBig_length, pText4_length]
    omega
theorem Pl.most_mono {m n : Nat} (h : m ≤ n) (p : Pl) (hp : p.most m) : p.most n := by
  cases p with
  | no => trivial
  | num => trivial
  | tr o a b n => exact ⟨Nat.le_trans hp.1 h, Nat.le_trans hp.2 h⟩
  | sa a b => exact ⟨Nat.le_trans hp.1 h, Nat.le_trans hp.2 h⟩
  | de o a n => exact Nat.le_trans (show a.length ≤ m from hp) h
set_option maxHeartbeats 1000000 in
set_option maxRecDepth 100000 in
theorem pbytes_calls (p : Pl) (ok : p.ok) (hp : p.most 4000000000) (w : World) :
    Calls Try.prog 10 #[p.val] w fun e w' => e = .returned (.tuple #[.string (str p.bytes.1), .int .i64 p.bytes.2]) ∧ Below w.heap.size w w' := by
  have k1 := hide fun W => tag_calls p W
  have k2 := hide fun W => mayBe_calls p (p.most_mono (by decide) hp) W
  have ht : p.tag < 256 := by cases p <;> simp [Pl.tag]
  have k3 := hide fun W => wbyte_calls p.tag ht W
  have k4 := hide fun W => fields_calls p ok hp W
  have L1 := pBig_length p.tag 1
  have L2 := fields_len p hp
  obtain ⟨R, hR⟩ : ∃ R, p.bytes = R := ⟨_, rfl⟩
  rw [hR]
  unfold Pl.bytes at hR
  have hr0 := Below.refl w.heap.size w
  generalize p.val = V at *
  generalize p.tag = t at *
  generalize p.right = r at *
  generalize pBig t 1 = B at *
  generalize p.fields = F at *
  have e1 := append_str B F
  have n1 : ¬ 9223372036854775807 < B.length + F.length := by omega
  clear L1 L2 ok hp
  have HR := hide hR
  clear hR
  by_cases h0 : t = 0
  · have hR := unhide HR
    rw [if_pos h0] at hR
    subst hR
    have e0 : ((t : Int) == 0) = true := by simp; omega
    clear h0
    go_enter Try.func10, Try.ntmps10
    go_wp2_with fail
    refine (unhide k1 _).mono ?_
    rintro e w1 ⟨rfl, rfl⟩
    go_wp2_with fail
    go_ret2
    exact ⟨rfl, hr0⟩
  · have hR := unhide HR
    rw [if_neg h0] at hR
    have e0 : ((t : Int) == 0) = false := by simp; omega
    clear h0
    cases r with
    | false =>
      rw [if_neg (by simp)] at hR
      subst hR
      go_enter Try.func10, Try.ntmps10
      go_wp2_with fail
      refine (unhide k1 _).mono ?_
      rintro e w1 ⟨rfl, rfl⟩
      go_wp2_with fail
      refine (unhide k2 _).mono ?_
      rintro e w2 ⟨rfl, b2⟩
      go_wp2_with fail
      go_ret2
      exact ⟨rfl, b2⟩
    | true =>
      rw [if_pos rfl] at hR
      subst hR
      go_enter Try.func10, Try.ntmps10
      go_wp2_with fail
      refine (unhide k1 _).mono ?_
      rintro e w1 ⟨rfl, rfl⟩
      go_wp2_with fail
      refine (unhide k2 _).mono ?_
      rintro e w2 ⟨rfl, b2⟩
      go_wp2_with fail
      refine (unhide k3 _).mono ?_
      rintro e w3 ⟨rfl, b3⟩
      have b3' := b2.trans (b3.mono b2.size)
      go_wp2_with fail
      refine (unhide k4 _).mono ?_
      rintro e w4 ⟨rfl, b4⟩
      go_wp2_with fail
      go_ret2
      exact ⟨rfl, b3'.trans (b4.mono b3'.size)⟩
end Go.Proofs.Ytlanplknendmaaa
