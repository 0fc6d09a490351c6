/-
  WHAT package payload's fields AND Bytes RETURN.
-/
import Derived.Test.YtjfnaedcdmmigaaDoorJ7
import Derived.Test.YtjfnaedcdmmigaaDoorJ0
import Derived.Test.YtjfnaedcdmmigaaDoorJ6
/-
  WHAT package payload's take AND Read RETURN.
-/
/-
  A WHOLE ROW LOADED WHERE A GUARD LETS IT. Over whatever program.
-/
/-
  WHAT package payload's Read AND Same RETURN.
-/
/-
  package router: isRouters, Say, arrived, handled.
-/
/-
  package router: handled, of a Transfer.
-/
/-
  package router: Send.
-/
/-
  package router: Handle.
-/
/-
  PURSES OF ONE TOKEN AND ONE OWNER, plain.
-/
namespace Go.Proofs.YtjfnaedcdmmigaaDoor
open Go.RowKit
set_option linter.unusedSimpArgs false
set_option linter.unusedVariables false

set_option maxHeartbeats 2000000 in
set_option maxRecDepth 100000 in
theorem fields_calls (p : Pl) (ok : p.ok) (hp : p.most 4000000000) (w : World) :
    Calls Tryd.prog 88 #[p.val] w fun e w' => e = .returned (.string (str p.fields)) ∧ Below w.heap.size w w' := by
  have h1 := as_tr p
  have h2 := as_sa p
  have h3 := as_de p
  generalize hV : p.val = V at *
  have hr0 := Below.refl w.heap.size w
  cases p with
  | no =>
    simp only [Pl.isTr, Pl.isSa, Pl.isDe, Pl.fields, Pl.trC, Pl.saC, Pl.deC] at *
    generalize trCells _ _ _ _ = C1 at *
    generalize saCells _ _ = C2 at *
    generalize deCells _ _ _ = C3 at *
    clear hV
    go_enter Tryd.func88, Tryd.ntmps88
    go_wp2
    go_ret
    exact ⟨rfl, hr0⟩
  | num =>
    simp only [Pl.isTr, Pl.isSa, Pl.isDe, Pl.fields, Pl.trC, Pl.saC, Pl.deC] at *
    generalize trCells _ _ _ _ = C1 at *
    generalize saCells _ _ = C2 at *
    generalize deCells _ _ _ = C3 at *
    clear hV
    go_enter Tryd.func88, Tryd.ntmps88
    go_wp2
    go_ret
    exact ⟨rfl, hr0⟩
  | tr o a b n =>
    simp only [Pl.isTr, Pl.isSa, Pl.isDe, Pl.fields, Pl.trC, Pl.saC, Pl.deC] at *
    have ok := ok
    have hp := hp
    have ok1 := ok.1
    have ok2 := ok.2
    have hp1 := hp.1
    have hp2 := hp.2
    have L1 := pBig_length o 4
    have w1 := fun w => wword_calls o ok1 w
    have L2 := pText4_length a
    have w2 := fun w => wtext_calls a (by omega) w
    have L3 := pText4_length b
    have w3 := fun w => wtext_calls b (by omega) w
    have L4 := pBig_length n 8
    have w4 := fun w => wlong_calls n w
    generalize pBig o 4 = P1 at *
    generalize pText4 a = P2 at *
    generalize pText4 b = P3 at *
    generalize pBig n 8 = P4 at *
    have a1 := append_str P1 P2
    have n1 : ¬ 9223372036854775807 < P1.length + P2.length := by omega
    have a2 : str (P1 ++ P2) ++ str P3 = str (P1 ++ (P2 ++ P3)) := by rw [append_str]; simp
    have n2 : ¬ 9223372036854775807 < P1.length + P2.length + P3.length := by omega
    have a3 : str (P1 ++ (P2 ++ P3)) ++ str P4 = str (P1 ++ (P2 ++ (P3 ++ P4))) := by rw [append_str]; simp
    have n3 : ¬ 9223372036854775807 < P1.length + (P2.length + P3.length) + P4.length := by omega
    have hb0 := (Below.refl w.heap.size w).alloc (Nat.le_refl _) (.cells #[.int .u32 (o : Int), .string (str a), .string (str b), .int .u64 (n : Int)] 105)
    have q0 := al1 w (.cells #[.int .u32 (o : Int), .string (str a), .string (str b), .int .u64 (n : Int)] 105)
    have HX0 := hide (rfl : w.alloc (.cells #[.int .u32 (o : Int), .string (str a), .string (str b), .int .u64 (n : Int)] 105) = w.alloc (.cells #[.int .u32 (o : Int), .string (str a), .string (str b), .int .u64 (n : Int)] 105))
    generalize hX : w.alloc (.cells #[.int .u32 (o : Int), .string (str a), .string (str b), .int .u64 (n : Int)] 105) = X at *
    clear HX0
    have hzX : w.heap.size < X.heap.size := (Array.getElem?_eq_some_iff.1 q0).1
    have cg : ∀ j v, (#[.int .u32 (o : Int), .string (str a), .string (str b), .int .u64 (n : Int)] : Array Value)[j]? = some v → ∀ d os, (Sort.grow (redrawn X d) os).cell? ⟨w.heap.size, j, none⟩ = some v := fun j v hv d os => by
      rw [(below_regrown X d os).cell (p := ⟨w.heap.size, j, none⟩) hzX]; exact (sig_cell q0).1 j v hv
    have c1 : ∀ d os, (Sort.grow (redrawn X d) os).cell? ⟨w.heap.size, 0, none⟩ = some (.int .u32 (o : Int)) := cg 0 _ rfl
    have c2 : ∀ d os, (Sort.grow (redrawn X d) os).cell? ⟨w.heap.size, 1, none⟩ = some (.string (str a)) := cg 1 _ rfl
    have c3 : ∀ d os, (Sort.grow (redrawn X d) os).cell? ⟨w.heap.size, 2, none⟩ = some (.string (str b)) := cg 2 _ rfl
    have c4 : ∀ d os, (Sort.grow (redrawn X d) os).cell? ⟨w.heap.size, 3, none⟩ = some (.int .u64 (n : Int)) := cg 3 _ rfl
    have k1 := hide fun d os => Calls.regrown_of (w := X) (d := d) (os := os) (w1 _)
    have k2 := hide fun d os => Calls.regrown_of (w := X) (d := d) (os := os) (w2 _)
    have k3 := hide fun d os => Calls.regrown_of (w := X) (d := d) (os := os) (w3 _)
    have k4 := hide fun d os => Calls.regrown_of (w := X) (d := d) (os := os) (w4 _)
    have HX := hide hX
    generalize saCells _ _ = D0 at *
    generalize deCells _ _ _ = D1 at *
    unfold trCells at h1
    clear cg hX hV q0 hp w1 w2 w3 w4 L1 L2 L3 L4 ok ok1 ok2 hp1 hp2
    go_enter Tryd.func88, Tryd.ntmps88
    go_wp2_with fail
    rw [unhide HX]
    refine wp_region_below mixed (by kernel_rfl) ?_
    quiet_step (fail)
    quiet_step (fail)
    quiet_step (exact unhide k1 _ _)
    quiet_step (fail)
    quiet_step (fail)
    quiet_step (exact unhide k2 _ _)
    quiet_step (fail)
    quiet_step (fail)
    quiet_step (fail)
    quiet_step (exact unhide k3 _ _)
    quiet_step (fail)
    quiet_step (fail)
    quiet_step (fail)
    quiet_step (exact unhide k4 _ _)
    repeat (quiet_step (fail))
    refine wpQuiet_nil ?_
    intro w3 hb3
    go_wp2
    go_ret
    exact ⟨rfl, hb0.trans (hb3.mono hb0.size)⟩
  | sa a b =>
    simp only [Pl.isTr, Pl.isSa, Pl.isDe, Pl.fields, Pl.trC, Pl.saC, Pl.deC] at *
    have hp := hp
    have hp1 := hp.1
    have hp2 := hp.2
    have L1 := pText4_length a
    have w1 := fun w => wtext_calls a (by omega) w
    have L2 := pText4_length b
    have w2 := fun w => wtext_calls b (by omega) w
    generalize pText4 a = P1 at *
    generalize pText4 b = P2 at *
    have a1 := append_str P1 P2
    have n1 : ¬ 9223372036854775807 < P1.length + P2.length := by omega
    have hb0 := (Below.refl w.heap.size w).alloc (Nat.le_refl _) (.cells #[.string (str a), .string (str b)] 118)
    have q0 := al1 w (.cells #[.string (str a), .string (str b)] 118)
    have HX0 := hide (rfl : w.alloc (.cells #[.string (str a), .string (str b)] 118) = w.alloc (.cells #[.string (str a), .string (str b)] 118))
    generalize hX : w.alloc (.cells #[.string (str a), .string (str b)] 118) = X at *
    clear HX0
    have hzX : w.heap.size < X.heap.size := (Array.getElem?_eq_some_iff.1 q0).1
    have cg : ∀ j v, (#[.string (str a), .string (str b)] : Array Value)[j]? = some v → ∀ d os, (Sort.grow (redrawn X d) os).cell? ⟨w.heap.size, j, none⟩ = some v := fun j v hv d os => by
      rw [(below_regrown X d os).cell (p := ⟨w.heap.size, j, none⟩) hzX]; exact (sig_cell q0).1 j v hv
    have c1 : ∀ d os, (Sort.grow (redrawn X d) os).cell? ⟨w.heap.size, 0, none⟩ = some (.string (str a)) := cg 0 _ rfl
    have c2 : ∀ d os, (Sort.grow (redrawn X d) os).cell? ⟨w.heap.size, 1, none⟩ = some (.string (str b)) := cg 1 _ rfl
    have k1 := hide fun d os => Calls.regrown_of (w := X) (d := d) (os := os) (w1 _)
    have k2 := hide fun d os => Calls.regrown_of (w := X) (d := d) (os := os) (w2 _)
    have HX := hide hX
    generalize trCells _ _ _ _ = D0 at *
    generalize deCells _ _ _ = D1 at *
    unfold saCells at h2
    clear cg hX hV q0 hp w1 w2 L1 L2 ok hp1 hp2
    go_enter Tryd.func88, Tryd.ntmps88
    go_wp2_with fail
    rw [unhide HX]
    refine wp_region_below mixed (by kernel_rfl) ?_
    quiet_step (fail)
    quiet_step (fail)
    quiet_step (exact unhide k1 _ _)
    quiet_step (fail)
    quiet_step (fail)
    quiet_step (exact unhide k2 _ _)
    repeat (quiet_step (fail))
    refine wpQuiet_nil ?_
    intro w3 hb3
    go_wp2
    go_ret
    exact ⟨rfl, hb0.trans (hb3.mono hb0.size)⟩
  | de o a n =>
    simp only [Pl.isTr, Pl.isSa, Pl.isDe, Pl.fields, Pl.trC, Pl.saC, Pl.deC] at *
    have ok := ok
    have hp := hp
    have ok1 := ok.1
    have ok2 := ok.2
    have hp1 : a.length ≤ 4000000000 := hp
    have L1 := pBig_length o 4
    have w1 := fun w => wword_calls o ok1 w
    have L2 := pText4_length a
    have w2 := fun w => wtext_calls a (by omega) w
    have L3 := pBig_length n 8
    have w3 := fun w => wlong_calls n w
    generalize pBig o 4 = P1 at *
    generalize pText4 a = P2 at *
    generalize pBig n 8 = P3 at *
    have a1 := append_str P1 P2
    have n1 : ¬ 9223372036854775807 < P1.length + P2.length := by omega
    have a2 : str (P1 ++ P2) ++ str P3 = str (P1 ++ (P2 ++ P3)) := by rw [append_str]; simp
    have n2 : ¬ 9223372036854775807 < P1.length + P2.length + P3.length := by omega
    have hb0 := (Below.refl w.heap.size w).alloc (Nat.le_refl _) (.cells #[.int .u32 (o : Int), .string (str a), .int .u64 (n : Int)] 140)
    have q0 := al1 w (.cells #[.int .u32 (o : Int), .string (str a), .int .u64 (n : Int)] 140)
    have HX0 := hide (rfl : w.alloc (.cells #[.int .u32 (o : Int), .string (str a), .int .u64 (n : Int)] 140) = w.alloc (.cells #[.int .u32 (o : Int), .string (str a), .int .u64 (n : Int)] 140))
    generalize hX : w.alloc (.cells #[.int .u32 (o : Int), .string (str a), .int .u64 (n : Int)] 140) = X at *
    clear HX0
    have hzX : w.heap.size < X.heap.size := (Array.getElem?_eq_some_iff.1 q0).1
    have cg : ∀ j v, (#[.int .u32 (o : Int), .string (str a), .int .u64 (n : Int)] : Array Value)[j]? = some v → ∀ d os, (Sort.grow (redrawn X d) os).cell? ⟨w.heap.size, j, none⟩ = some v := fun j v hv d os => by
      rw [(below_regrown X d os).cell (p := ⟨w.heap.size, j, none⟩) hzX]; exact (sig_cell q0).1 j v hv
    have c1 : ∀ d os, (Sort.grow (redrawn X d) os).cell? ⟨w.heap.size, 0, none⟩ = some (.int .u32 (o : Int)) := cg 0 _ rfl
    have c2 : ∀ d os, (Sort.grow (redrawn X d) os).cell? ⟨w.heap.size, 1, none⟩ = some (.string (str a)) := cg 1 _ rfl
    have c3 : ∀ d os, (Sort.grow (redrawn X d) os).cell? ⟨w.heap.size, 2, none⟩ = some (.int .u64 (n : Int)) := cg 2 _ rfl
    have k1 := hide fun d os => Calls.regrown_of (w := X) (d := d) (os := os) (w1 _)
    have k2 := hide fun d os => Calls.regrown_of (w := X) (d := d) (os := os) (w2 _)
    have k3 := hide fun d os => Calls.regrown_of (w := X) (d := d) (os := os) (w3 _)
    have HX := hide hX
    generalize trCells _ _ _ _ = D0 at *
    generalize saCells _ _ = D1 at *
    unfold deCells at h3
    clear cg hX hV q0 hp w1 w2 w3 L1 L2 L3 ok ok1 ok2 hp1
    go_enter Tryd.func88, Tryd.ntmps88
    go_wp2_with fail
    rw [unhide HX]
    refine wp_region_below mixed (by kernel_rfl) ?_
    quiet_step (fail)
    quiet_step (fail)
    quiet_step (exact unhide k1 _ _)
    quiet_step (fail)
    quiet_step (fail)
    quiet_step (exact unhide k2 _ _)
    quiet_step (fail)
    quiet_step (fail)
    quiet_step (fail)
    quiet_step (exact unhide k3 _ _)
    repeat (quiet_step (fail))
    refine wpQuiet_nil ?_
    intro w3 hb3
    go_wp2
    go_ret
    exact ⟨rfl, hb0.trans (hb3.mono hb0.size)⟩
theorem fields_len (p : Pl) (hp : p.most 4000000000) : p.fields.length ≤ 9000000000 := by
  cases p with
  | no => simp [Pl.fields]
  | num => simp [Pl.fields]
  | tr o a b n =>
    have h1 := hp.1
    have h2 := hp.2
    simp only [Pl.fields, List.length_append, pBig_length, pText4_length]
    omega
  | sa a b =>
    have h1 := hp.1
    have h2 := hp.2
    simp only [Pl.fields, List.length_append, pBig_length, pText4_length]
    omega
  | de o a n =>
    have h1 : a.length ≤ 4000000000 := hp
    simp only [Pl.fields, List.length_append, pBig_length, pText4_length]
    omega
theorem Pl.most_mono {m n : Nat} (h : m ≤ n) (p : Pl) (hp : p.most m) : p.most n := by
  cases p with
  | no => trivial
  | num => trivial
  | tr o a b n => exact ⟨Nat.le_trans hp.1 h, Nat.le_trans hp.2 h⟩
  | sa a b => exact ⟨Nat.le_trans hp.1 h, Nat.le_trans hp.2 h⟩
  | de o a n => exact Nat.le_trans (show a.length ≤ m from hp) h
set_option maxHeartbeats 1000000 in
set_option maxRecDepth 100000 in
theorem pbytes_calls (p : Pl) (ok : p.ok) (hp : p.most 4000000000) (w : World) :
    Calls Tryd.prog 57 #[p.val] w fun e w' => e = .returned (.tuple #[.string (str p.bytes.1), .int .i64 p.bytes.2]) ∧ Below w.heap.size w w' := by
  have k1 := hide fun W => tag_calls p W
  have k2 := hide fun W => mayBe_calls p (p.most_mono (by decide) hp) W
  have ht : p.tag < 256 := by cases p <;> simp [Pl.tag]
  have k3 := hide fun W => wbyte_calls p.tag ht W
  have k4 := hide fun W => fields_calls p ok hp W
  have L1 := pBig_length p.tag 1
  have L2 := fields_len p hp
  obtain ⟨R, hR⟩ : ∃ R, p.bytes = R := ⟨_, rfl⟩
  rw [hR]
  unfold Pl.bytes at hR
  have hr0 := Below.refl w.heap.size w
  generalize p.val = V at *
  generalize p.tag = t at *
  generalize p.right = r at *
  generalize pBig t 1 = B at *
  generalize p.fields = F at *
  have e1 := append_str B F
  have n1 : ¬ 9223372036854775807 < B.length + F.length := by omega
  clear L1 L2 ok hp
  have HR := hide hR
  clear hR
  by_cases h0 : t = 0
  · have hR := unhide HR
    rw [if_pos h0] at hR
    subst hR
    have e0 : ((t : Int) == 0) = true := by simp; omega
    clear h0
    go_enter Tryd.func57, Tryd.ntmps57
    go_wp2_with fail
    refine (unhide k1 _).mono ?_
    rintro e w1 ⟨rfl, rfl⟩
    go_wp2_with fail
    go_ret2
    exact ⟨rfl, hr0⟩
  · have hR := unhide HR
    rw [if_neg h0] at hR
    have e0 : ((t : Int) == 0) = false := by simp; omega
    clear h0
    cases r with
    | false =>
      rw [if_neg (by simp)] at hR
      subst hR
      go_enter Tryd.func57, Tryd.ntmps57
      go_wp2_with fail
      refine (unhide k1 _).mono ?_
      rintro e w1 ⟨rfl, rfl⟩
      go_wp2_with fail
      refine (unhide k2 _).mono ?_
      rintro e w2 ⟨rfl, b2⟩
      go_wp2_with fail
      go_ret2
      exact ⟨rfl, b2⟩
    | true =>
      rw [if_pos rfl] at hR
      subst hR
      go_enter Tryd.func57, Tryd.ntmps57
      go_wp2_with fail
      refine (unhide k1 _).mono ?_
      rintro e w1 ⟨rfl, rfl⟩
      go_wp2_with fail
      refine (unhide k2 _).mono ?_
      rintro e w2 ⟨rfl, b2⟩
      go_wp2_with fail
      refine (unhide k3 _).mono ?_
      rintro e w3 ⟨rfl, b3⟩
      have b3' := b2.trans (b3.mono b2.size)
      go_wp2_with fail
      refine (unhide k4 _).mono ?_
      rintro e w4 ⟨rfl, b4⟩
      go_wp2_with fail
      go_ret2
      exact ⟨rfl, b3'.trans (b4.mono b3'.size)⟩
end Go.Proofs.YtjfnaedcdmmigaaDoor

namespace Go.Proofs.YtjfnaedcdmmigaaDoor
open Go.RowKit
set_option linter.unusedSimpArgs false
set_option linter.unusedVariables false

set_option maxHeartbeats 2000000 in
set_option maxRecDepth 100000 in
theorem ptake_calls (g : Nat) (r : Rd) (hl : r.rest.length ≤ 4611686018427387904) (w : World) (h : RdAt w g r) :
    Calls Tryd.prog 90 #[.pointer (some ⟨g, 0, none⟩)] w fun e w' => e = .returned r.pl.1.val ∧ RdAt w' g r.pl.2 ∧ Turned g w w' := by
  have k0 := hide (rbyte_calls g r hl w h)
  have m0 := r.num_rest 1
  have hb := Rd.num_lt r 1
  obtain ⟨P, hP⟩ : ∃ P, r.pl = P := ⟨_, rfl⟩
  rw [hP]
  unfold Rd.pl at hP
  generalize (r.num 1).1 = t at *
  obtain ⟨r1, hr1⟩ : ∃ x, (r.num 1).2 = x := ⟨_, rfl⟩
  rw [hr1] at k0 m0 hP
  have hl1 : r1.rest.length ≤ 4611686018427387904 := by omega
  clear hr1 m0 hl h
  have HP := hide hP
  clear hP
  by_cases h1 : t = 1
  · subst h1
    have hP := unhide HP
    rw [if_pos rfl] at hP
    subst hP
    unfold Rd.tr Rd.trR Pl.val trCells
    have m1 := r1.num_rest 4
    have m2 := (r1.num 4).2.text_rest 48
    have m3 := ((r1.num 4).2.text 48).2.text_rest 48
    have k1 := hide fun W (h : RdAt W g r1) => rword_calls _ r1 hl1 W h
    have k2 := hide fun W (h : RdAt W g (r1.num 4).2) => rdtext_calls _ (r1.num 4).2 (by omega) 48 W h
    have k3 := hide fun W (h : RdAt W g ((r1.num 4).2.text 48).2) => rdtext_calls _ ((r1.num 4).2.text 48).2 (by omega) 48 W h
    have k4 := hide fun W (h : RdAt W g (((r1.num 4).2.text 48).2.text 48).2) => rlong_calls _ (((r1.num 4).2.text 48).2.text 48).2 (by omega) W h
    generalize (((r1.num 4).2.text 48).2.text 48).2.num 8 = x4 at *
    generalize ((r1.num 4).2.text 48).2.text 48 = x3 at *
    generalize (r1.num 4).2.text 48 = x2 at *
    generalize r1.num 4 = x1 at *
    obtain ⟨a1, s1⟩ := x1
    obtain ⟨a2, s2⟩ := x2
    obtain ⟨a3, s3⟩ := x3
    obtain ⟨a4, s4⟩ := x4
    simp only at *
    clear m1 m2 m3 hl1 HP hb
    go_enter Tryd.func90, Tryd.ntmps90
    go_wp2_with fail
    refine (unhide k0).mono ?_
    rintro e w0 ⟨rfl, R0, T0⟩
    go_wp2_with fail
    refine (unhide k1 _ R0).mono ?_
    rintro e w1 ⟨rfl, R1, T1⟩
    go_wp2_with fail
    refine (unhide k2 _ R1).mono ?_
    rintro e w2 ⟨rfl, R2, T2⟩
    go_wp2_with fail
    refine (unhide k3 _ R2).mono ?_
    rintro e w3 ⟨rfl, R3, T3⟩
    go_wp2_with fail
    refine (unhide k4 _ R3).mono ?_
    rintro e w4 ⟨rfl, R4, T4⟩
    have T := (((T0.trans T1).trans T2).trans T3).trans T4
    clear T0 T1 T2 T3 T4 R0 R1 R2 R3
    go_wp2_with fail
    go_ret
    exact ⟨rfl, R4, T⟩
  · by_cases h2 : t = 2
    · subst h2
      have hP := unhide HP
      rw [if_neg h1, if_pos rfl] at hP
      subst hP
      unfold Rd.sa Rd.saR Pl.val saCells
      have m1 := r1.text_rest 48
      have k1 := hide fun W (h : RdAt W g r1) => rdtext_calls _ r1 hl1 48 W h
      have k2 := hide fun W (h : RdAt W g (r1.text 48).2) => rdtext_calls _ (r1.text 48).2 (by omega) 256 W h
      generalize (r1.text 48).2.text 256 = x2 at *
      generalize r1.text 48 = x1 at *
      obtain ⟨a1, s1⟩ := x1
      obtain ⟨a2, s2⟩ := x2
      simp only at *
      clear m1 hl1 HP hb h1
      go_enter Tryd.func90, Tryd.ntmps90
      go_wp2_with fail
      refine (unhide k0).mono ?_
      rintro e w0 ⟨rfl, R0, T0⟩
      go_wp2_with fail
      refine (unhide k1 _ R0).mono ?_
      rintro e w1 ⟨rfl, R1, T1⟩
      go_wp2_with fail
      refine (unhide k2 _ R1).mono ?_
      rintro e w2 ⟨rfl, R2, T2⟩
      have T := (T0.trans T1).trans T2
      clear T0 T1 T2 R0 R1
      go_wp2_with fail
      go_ret
      exact ⟨rfl, R2, T⟩
    · by_cases h3 : t = 3
      · subst h3
        have hP := unhide HP
        rw [if_neg h1, if_neg h2, if_pos rfl] at hP
        subst hP
        unfold Rd.de Rd.deR Pl.val deCells
        have m1 := r1.num_rest 4
        have m2 := (r1.num 4).2.text_rest 48
        have k1 := hide fun W (h : RdAt W g r1) => rword_calls _ r1 hl1 W h
        have k2 := hide fun W (h : RdAt W g (r1.num 4).2) => rdtext_calls _ (r1.num 4).2 (by omega) 48 W h
        have k3 := hide fun W (h : RdAt W g ((r1.num 4).2.text 48).2) => rlong_calls _ ((r1.num 4).2.text 48).2 (by omega) W h
        generalize ((r1.num 4).2.text 48).2.num 8 = x3 at *
        generalize (r1.num 4).2.text 48 = x2 at *
        generalize r1.num 4 = x1 at *
        obtain ⟨a1, s1⟩ := x1
        obtain ⟨a2, s2⟩ := x2
        obtain ⟨a3, s3⟩ := x3
        simp only at *
        clear m1 m2 hl1 HP hb h1 h2
        go_enter Tryd.func90, Tryd.ntmps90
        go_wp2_with fail
        refine (unhide k0).mono ?_
        rintro e w0 ⟨rfl, R0, T0⟩
        go_wp2_with fail
        refine (unhide k1 _ R0).mono ?_
        rintro e w1 ⟨rfl, R1, T1⟩
        go_wp2_with fail
        refine (unhide k2 _ R1).mono ?_
        rintro e w2 ⟨rfl, R2, T2⟩
        go_wp2_with fail
        refine (unhide k3 _ R2).mono ?_
        rintro e w3 ⟨rfl, R3, T3⟩
        have T := ((T0.trans T1).trans T2).trans T3
        clear T0 T1 T2 T3 R0 R1 R2
        go_wp2_with fail
        go_ret
        exact ⟨rfl, R3, T⟩
      · have hP := unhide HP
        rw [if_neg h1, if_neg h2, if_neg h3] at hP
        subst hP
        unfold Pl.val
        have e1 : ((t : Int) == 1) = false := by simp; omega
        have e2 : ((t : Int) == 2) = false := by simp; omega
        have e3 : ((t : Int) == 3) = false := by simp; omega
        have k1 := hide fun W (h : RdAt W g r1) => fail_calls g r1 4 W h
        simp only
        generalize r1.fail 4 = s1 at *
        clear HP h1 h2 h3 hb hl1
        go_enter Tryd.func90, Tryd.ntmps90
        go_wp2_with fail
        refine (unhide k0).mono ?_
        rintro e w0 ⟨rfl, R0, T0⟩
        go_wp2_with fail
        refine (unhide k1 _ R0).mono ?_
        rintro e w1 ⟨rfl, R1, T1⟩
        have T := T0.trans T1
        go_wp2_with fail
        go_ret
        exact ⟨rfl, R1, T⟩
end Go.Proofs.YtjfnaedcdmmigaaDoor

namespace Go.Proofs.YtjfnaedcdmmigaaDoor
open Go Go.RowKit

theorem wpList_load_row_gd {P : Program} {ops : Array Oper} {rest : List Oper} {o : Oper} {a : Act} {w : World} {Q : Exit → Act → World → Prop} (hw : Region.wanted o (yielded ops a.tmps) = true) (ty : TypeId) (x : Operand) (ho : o.op = .load ty x)
    (g : Nat) (hx : a.eval x = .pointer (some ⟨g, 0, none⟩)) (t : TypeId) (cs : Array Value) (fr : Nat × Nat) (d : TypeDesc) (hg : w.heap[g]? = some (.cells cs t fr))
    (hu : P.underlying ty = some d) (hd : (match d with | .struct _ | .array _ _ => true | _ => false) = true) (hi : (P.info? ty).map (·.size) = some cs.size)
    (h : wpList P ops Q rest (a.put o.dst (.agg cs)) w) : wpList P ops Q (o :: rest) a w :=
  wpList_step fun K hK => by
    rw [if_pos hw]
    exact wp_load_row ty x ho g hx t cs fr d hg hu hd hi (hK _ _ h)
end Go.Proofs.YtjfnaedcdmmigaaDoor

namespace Go.Proofs.YtjfnaedcdmmigaaDoor
open Go.RowKit
set_option linter.unusedSimpArgs false
set_option linter.unusedVariables false

set_option maxRecDepth 100000 in
theorem pover_calls (l : List UInt8) (w : World) :
    Calls Tryd.prog 89 #[.string (str l)] w fun e w' => e = .returned (.pointer (some ⟨w.heap.size, 0, none⟩)) ∧ w' = w.alloc (.cells (⟨l, 0⟩ : Rd).cells 155) := by
  unfold Rd.cells
  simp only
  go_enter Tryd.func89, Tryd.ntmps89
  go_wp2
  go_ret
  exact ⟨rfl, rfl⟩
set_option maxHeartbeats 1000000 in
set_option maxRecDepth 100000 in
theorem pread_calls (l : List UInt8) (hl : l.length ≤ 4611686018427387904) (w : World) :
    Calls Tryd.prog 59 #[.string (str l)] w fun e w' => e = .returned (.tuple #[(pPRead l).1.val, .int .i64 (pPRead l).2]) ∧ Below w.heap.size w w' := by
  obtain ⟨r0, h0⟩ : ∃ r, (⟨l, 0⟩ : Rd) = r := ⟨_, rfl⟩
  have hl0 : r0.rest.length ≤ 4611686018427387904 := by rw [← h0]; exact hl
  have ko := pover_calls l
  unfold pPRead
  rw [h0] at ko ⊢
  have k1 := hide fun W (h : RdAt W w.heap.size r0) => ptake_calls _ r0 hl0 W h
  have k2 := hide fun W (h : RdAt W w.heap.size r0.pl.2) => rdend_calls _ r0.pl.2 W h
  have k3 := hide fun W => mayBe_calls r0.pl.1 (r0.pl.1.most_mono hl0 r0.pl_most) W
  have hb0 := (Below.refl w.heap.size w).alloc (Nat.le_refl _) (.cells r0.cells 155)
  have q0 : RdAt (w.alloc (.cells r0.cells 155)) w.heap.size r0 := al1 w _
  generalize r0.pl = P at *
  obtain ⟨p, r1⟩ := P
  simp only at *
  generalize r1.end' = E at *
  generalize p.right = R at *
  obtain ⟨Z, hZ⟩ : ∃ Z, (if E ≠ 0 then (Pl.no, E) else if R = true then (p, 0) else (Pl.no, 4)) = Z := ⟨_, rfl⟩
  rw [hZ]
  have HZ := hide hZ
  have Ko := hide ko
  clear ko hZ h0 hl0 hl
  go_enter Tryd.func59, Tryd.ntmps59
  go_wp2_with fail
  refine (unhide Ko _).mono ?_
  rintro e w0 ⟨rfl, h0⟩
  rw [← h0] at hb0 q0
  clear h0 Ko
  go_wp2_with fail
  refine (unhide k1 _ q0).mono ?_
  rintro e w1 ⟨rfl, R1, T1⟩
  have hb1 := T1.under hb0 (Nat.le_refl _)
  clear hb0 q0 T1 k1
  go_wp2_with fail
  refine (unhide k2 _ R1).mono ?_
  rintro e w2 ⟨rfl, rfl⟩
  clear R1 k2
  by_cases hE : E = 0
  · have hE' : (E != 0) = false := by simp [hE]
    have hc : ¬ E ≠ 0 := fun h => h hE
    have hA := unhide HZ
    rw [if_neg hc] at hA
    have HB := hide hA
    clear hE hc hA HZ
    go_wp2_with fail
    refine (unhide k3 _).mono ?_
    rintro e w3 ⟨rfl, b3⟩
    have hb3 := hb1.trans (b3.mono hb1.size)
    cases R with
    | false =>
      have hA := unhide HB
      rw [if_neg (by simp)] at hA
      subst hA
      go_wp2_with fail
      go_ret2
      exact ⟨rfl, hb3⟩
    | true =>
      have hA := unhide HB
      rw [if_pos rfl] at hA
      subst hA
      go_wp2_with fail
      go_ret2
      exact ⟨rfl, hb3⟩
  · have hE' : (E != 0) = true := by simp [hE]
    have hA := unhide HZ
    rw [if_pos hE] at hA
    subst hA
    clear hE
    go_wp2_with fail
    go_ret2
    exact ⟨rfl, hb1⟩
/-- Are both payloads, of one kind, with the same fields? -/
def pPSame : Pl → Pl → Bool
  | .tr o a b n, .tr o' a' b' n' => if o = o' then if a = a' then if b = b' then decide (n = n') else false else false else false
  | .sa a b, .sa a' b' => if a = a' then decide (b = b') else false
  | .de o a n, .de o' a' n' => if o = o' then if a = a' then decide (n = n') else false else false
  | _, _ => false
theorem pPSame_self (p : Pl) (h : p.tag ≠ 0) : pPSame p p = true := by
  cases p <;> simp_all [pPSame, Pl.tag]
theorem toList_eq (l m : List UInt8) : ((str l).toList = (str m).toList) = (l = m) := by rw [ByteArray.toList_eq, ByteArray.toList_eq, str_toList, str_toList]
set_option maxRecDepth 100000 in
theorem tr_eql (o : Nat) (a b : List UInt8) (n o' : Nat) (a' b' : List UInt8) (n' : Nat) (w : World) : (binOp .eql 105 (.agg #[.int .u32 (o : Int), .string (str a), .string (str b), .int .u64 (n : Int)]) (.agg #[.int .u32 (o' : Int), .string (str a'), .string (str b'), .int .u64 (n' : Int)])).run Tryd.prog w = .ok (.bool (pPSame (.tr o a b n) (.tr o' a' b' n'))) w := by
  unfold pPSame
  have s := toList_eq
  by_cases h1 : o = o'
  · subst h1
    by_cases h4 : n = n'
    · subst h4
      go_simp
      by_cases h2 : a = a' <;> by_cases h3 : b = b' <;> simp [h2, h3]
    · have e4 : ((n : Int) == (n' : Int)) = false := by simp; omega
      go_simp
  · have e1 : ((o : Int) == (o' : Int)) = false := by simp; omega
    go_simp
set_option maxRecDepth 100000 in
theorem sa_eql (a b a' b' : List UInt8) (w : World) : (binOp .eql 118 (.agg #[.string (str a), .string (str b)]) (.agg #[.string (str a'), .string (str b')])).run Tryd.prog w = .ok (.bool (pPSame (.sa a b) (.sa a' b'))) w := by
  unfold pPSame
  have s := toList_eq
  go_simp
  by_cases h2 : a = a' <;> by_cases h3 : b = b' <;> simp [h2, h3]
set_option maxRecDepth 100000 in
theorem de_eql (o : Nat) (a : List UInt8) (n o' : Nat) (a' : List UInt8) (n' : Nat) (w : World) : (binOp .eql 140 (.agg #[.int .u32 (o : Int), .string (str a), .int .u64 (n : Int)]) (.agg #[.int .u32 (o' : Int), .string (str a'), .int .u64 (n' : Int)])).run Tryd.prog w = .ok (.bool (pPSame (.de o a n) (.de o' a' n'))) w := by
  unfold pPSame
  have s := toList_eq
  by_cases h1 : o = o'
  · subst h1
    by_cases h4 : n = n'
    · subst h4
      go_simp
      by_cases h2 : a = a' <;> simp [h2]
    · have e4 : ((n : Int) == (n' : Int)) = false := by simp; omega
      go_simp
  · have e1 : ((o : Int) == (o' : Int)) = false := by simp; omega
    go_simp
end Go.Proofs.YtjfnaedcdmmigaaDoor

namespace Go.Proofs.YtjfnaedcdmmigaaDoor
open Go Go.RowKit
set_option linter.unusedSimpArgs false
set_option linter.unusedVariables false

def rName : List UInt8 := [114, 111, 117, 116, 101, 114]
/-- A letter's six cells. -/
def ltc (f n t : Nat) (a b c : List UInt8) : Array Value := #[.int .u32 (f : Int), .int .u32 (n : Int), .int .u32 (t : Int), .string (str a), .string (str b), .string (str c)]
/-- Whether a letter is the other router's. -/
def pIsR (remote a b : List UInt8) : Bool := decide (remote ≠ []) && (decide (a = remote) && decide (b = rName))
theorem strEq (l m : List UInt8) : ((str l).toList == (str m).toList) = decide (l = m) := by
  rw [ByteArray.toList_eq, ByteArray.toList_eq, str_toList, str_toList]
  by_cases h : l = m <;> simp [h]
set_option maxRecDepth 100000 in
theorem isR_calls (remote : List UInt8) (f n t : Nat) (a b c : List UInt8) (w : World) :
    Calls Tryd.prog 58 #[.string (str remote), .agg (ltc f n t a b c)] w fun e w' => e = .returned (.bool (pIsR remote a b)) ∧ Below w.heap.size w w' := by
  have s1 := strEq remote []
  have s2 := strEq a remote
  have s3 := strEq b rName
  have hb : Below w.heap.size w (w.alloc (.cells (ltc f n t a b c) 66)) := (Below.refl _ _).alloc (Nat.le_refl _) _
  have e1 : ((⟨#[]⟩ : ByteArray)) = str [] := rfl
  have e2 : ((⟨#[114, 111, 117, 116, 101, 114]⟩ : ByteArray)) = str rName := rfl
  unfold pIsR
  by_cases h1 : remote = []
  · have d1 : decide (remote ≠ []) = false := by simpa using h1
    have dd : (decide (str remote = (⟨#[]⟩ : ByteArray))) = true := by rw [h1, e1]; simp
    rw [d1]
    subst h1
    unfold ltc at *
    go_enter Tryd.func58, Tryd.ntmps58
    go_wp2
    go_ret
    exact ⟨rfl, hb⟩
  · have d1 : decide (remote ≠ []) = true := by simpa using h1
    rw [decide_eq_false h1] at s1
    rw [d1]
    unfold ltc at *
    by_cases h2 : a = remote
    · rw [decide_eq_true h2] at s2 ⊢
      by_cases h3 : b = rName
      · rw [decide_eq_true h3] at s3 ⊢
        clear h1 h2 h3 d1
        go_enter Tryd.func58, Tryd.ntmps58
        go_wp2
        go_ret
        exact ⟨rfl, hb⟩
      · rw [decide_eq_false h3] at s3 ⊢
        clear h1 h2 h3 d1
        go_enter Tryd.func58, Tryd.ntmps58
        go_wp2
        go_ret
        exact ⟨rfl, hb⟩
    · rw [decide_eq_false h2] at s2 ⊢
      clear h1 h2 d1
      go_enter Tryd.func58, Tryd.ntmps58
      go_wp2
      go_ret
      exact ⟨rfl, hb⟩
set_option maxRecDepth 100000 in
theorem say_calls (a b : List UInt8) (ha : a.length ≤ 1000) (hb : b.length ≤ 1000) (g : Nat) (x : Int) (v1 v2 v3 : Value) (w : World) :
    Calls Tryd.prog 49 #[.agg #[.string (str a), .string (str b), .int .u64 (g : Int), .int .i64 x, v1, v2, v3]] w fun e w' => e = .returned (.tuple #[.string (str (Pl.sa a b).bytes.1), .int .i64 (Pl.sa a b).bytes.2]) ∧ Below w.heap.size w w' := by
  have b0 : Below w.heap.size w (w.alloc (.cells #[.string (str a), .string (str b), .int .u64 (g : Int), .int .i64 x, v1, v2, v3] 95)) := (Below.refl _ _).alloc (Nat.le_refl _) _
  have CB := hide fun W => pbytes_calls (.sa a b) trivial ⟨by omega, by omega⟩ W
  generalize (Pl.sa a b).bytes = BB at *
  have hv : (Pl.sa a b).val = .iface 118 (.agg #[.string (str a), .string (str b)]) := rfl
  rw [hv] at CB
  go_enter Tryd.func49, Tryd.ntmps49
  go_wp2_with fail
  refine (unhide CB _).mono ?_
  rintro e w1 ⟨rfl, b1⟩
  go_wp2
  go_ret2
  exact ⟨rfl, b0.trans (b1.mono b0.size)⟩
/-- What a letter's Transfer does. -/
def pArr (ts : List Tkn) (hs : List Hol) (here from' o : Nat) (n a : List UInt8) (k : Nat) : List Tkn × List Hol × Nat :=
  if o = here then pUnlock ts hs o n a k else if o = from' then pMint ts hs o n a k else (ts, hs, 40)
set_option maxHeartbeats 4000000 in
set_option maxRecDepth 1000000 in
theorem arr_calls (ts : List Tkn) (hs : List Hol) (hn1 : ts.length ≤ 1000) (hn2 : hs.length ≤ 999) (htk : ∀ t ∈ ts, t.ok) (hok : ∀ h ∈ hs, h.ok) (v : Value) (here from' o : Nat) (n a : List UInt8) (hnl : n.length ≤ 1000) (hal : a.length ≤ 1000) (k : Nat) (hk : k < 18446744073709551616) (w : World) (hU : UTabs w) (hP : PM w v ts hs) :
    Calls Tryd.prog 93 #[v, .int .u32 (here : Int), .int .u32 (from' : Int), .agg (trCells o n a k)] w fun e w' => (∃ v', e = .returned (.tuple #[v', .int .i64 ((pArr ts hs here from' o n a k).2.2 : Int)]) ∧ PO w' w.heap.size v' (pArr ts hs here from' o n a k).1 (pArr ts hs here from' o n a k).2.1) ∧ Below w.heap.size w w' := by
  obtain ⟨p1, c1, p2, c2, rfl, hT, hH⟩ := hP
  obtain ⟨q0, q1, q2⟩ := al3 w (.cells #[.slice p1 ts.length c1, .slice p2 hs.length c2] 27) (.cells (trCells o n a k) 105) (.cells zPur 27)
  have b0 := bel3 w (.cells #[.slice p1 ts.length c1, .slice p2 hs.length c2] 27) (.cells (trCells o n a k) 105) (.cells zPur 27)
  have sX : (((w.alloc (.cells #[.slice p1 ts.length c1, .slice p2 hs.length c2] 27)).alloc (.cells (trCells o n a k) 105)).alloc (.cells zPur 27)).heap.size = w.heap.size + 1 + 1 + 1 := by simp
  obtain ⟨X, hX⟩ : ∃ X, ((w.alloc (.cells #[.slice p1 ts.length c1, .slice p2 hs.length c2] 27)).alloc (.cells (trCells o n a k) 105)).alloc (.cells zPur 27) = X := ⟨_, rfl⟩
  have HX := hide hX
  rw [hX] at q0 q1 q2 b0 sX
  have PX : PM X (.agg #[.slice p1 ts.length c1, .slice p2 hs.length c2]) ts hs := ⟨p1, c1, p2, c2, rfl, hT.below b0, hH.below b0⟩
  have CT := hide fun W (hW : Below X.heap.size X W) => twin_calls ts hs hn1 (by omega) _ W (PX.below hW)
  have CU := hide (unlock_calls ts hs hn1 hn2 htk hok _ o n a hnl hal k hk X (hU.below' b0) PX)
  have CM := hide (mint_calls ts hs hn1 hn2 htk hok _ o n a hnl hal k hk X (hU.below' b0) PX)
  have h1 : Hid (o = here → pArr ts hs here from' o n a k = pUnlock ts hs o n a k) := hide fun h => by unfold pArr; rw [if_pos h]
  have h2 : Hid (¬ o = here → o = from' → pArr ts hs here from' o n a k = pMint ts hs o n a k) := hide fun h h' => by unfold pArr; rw [if_neg h, if_pos h']
  have h3 : Hid (¬ o = here → ¬ o = from' → pArr ts hs here from' o n a k = (ts, hs, 40)) := hide fun h h' => by unfold pArr; rw [if_neg h, if_neg h']
  generalize pArr ts hs here from' o n a k = R at *
  generalize pUnlock ts hs o n a k = RU at *
  generalize pMint ts hs o n a k = RM at *
  have QR := hide q2
  have Q0 := hide q0
  have B0 := hide b0
  have SX := hide sX
  have S0 : Hid (Below X.heap.size X X) := hide (Below.refl _ _)
  have PS := hide fun v1 v2 => purSz v1 v2
  have c0 : X.cell? ⟨w.heap.size + 1, 0, none⟩ = some (.int .u32 (o : Int)) := cell_of_row _ _ _ _ _ _ q1
  have cc1 : X.cell? ⟨w.heap.size + 1, 1, none⟩ = some (.string (str n)) := cell_of_row _ _ _ _ _ _ q1
  have cc2 : X.cell? ⟨w.heap.size + 1, 2, none⟩ = some (.string (str a)) := cell_of_row _ _ _ _ _ _ q1
  have cc3 : X.cell? ⟨w.heap.size + 1, 3, none⟩ = some (.int .u64 (k : Int)) := cell_of_row _ _ _ _ _ _ q1
  unfold zPur at HX
  clear hT hH hX PX q1 q2 b0 sX hn1 hn2 htk hok hnl hal hU hk
  have k0 := q0
  clear q0
  go_enter Tryd.func93, Tryd.ntmps93
  go_upto_region 1 with fail
  change Code.wp _ _ _ _ (((w.alloc (.cells #[.slice p1 ts.length c1, .slice p2 hs.length c2] 27)).alloc (.cells (trCells o n a k) 105)).alloc (.cells #[.slice none 0 0, .slice none 0 0] 27))
  rw [unhide HX]
  by_cases e1 : o = here
  · have HR := unhide h1 e1
    subst e1
    subst HR
    clear h1 h2 h3 CM CT HX
    go_wp2_with (refine wpList_load_row rfl 27 (.tmp 4) rfl w.heap.size rfl 27 _ (0, 0) _ k0 Tryd.underlying27 rfl (unhide PS _ _) ?_)
    refine (unhide CU).mono ?_
    rintro e wz ⟨⟨v', rfl, po⟩, bz⟩
    obtain ⟨u1, u2, rfl, one⟩ := po.parts
    have SZ := (unhide S0).trans (bz.mono (unhide S0).size)
    have rz := Below.at SZ (by have := unhide SX; omega) (unhide QR)
    have F := hide (out_set (C := w.heap.size) po (by have := (unhide S0).size; have := (unhide B0).size; omega) (by omega) rz ((unhide B0).trans (SZ.mono (unhide B0).size)) #[u1, u2])
    clear po bz SZ k0 CU c0 cc1 cc2 cc3
    go_wp2_with (refine wpList_store_row rfl 27 (.tmp 8) (.tmp 25) rfl (w.heap.size + 1 + 1) _ rfl rfl 27 _ rz (unhide PS _ _) rfl one ?_)
    exact bodyPost_ret (results_row_tmp rfl _ _ (w.heap.size + 1 + 1) _ _ _ _ rfl (setRow_heap _ _ _ _ _ _ rz) Tryd.underlying27 rfl (unhide PS _ _)) rfl ⟨⟨_, rfl, (unhide F).1⟩, (unhide F).2⟩
  · have d1 : ((o : Int) == (here : Int)) = false := by simp; omega
    have d1' : ¬ (o : Int) = (here : Int) := by omega
    by_cases e2 : o = from'
    · have HR := unhide h2 e1 e2
      subst e2
      subst HR
      clear h1 h2 h3 CU CT HX e1
      go_wp2_with (refine wpList_load_row rfl 27 (.tmp 4) rfl w.heap.size rfl 27 _ (0, 0) _ k0 Tryd.underlying27 rfl (unhide PS _ _) ?_)
      refine (unhide CM).mono ?_
      rintro e wz ⟨⟨v', rfl, po⟩, bz⟩
      obtain ⟨u1, u2, rfl, one⟩ := po.parts
      have SZ := (unhide S0).trans (bz.mono (unhide S0).size)
      have rz := Below.at SZ (by have := unhide SX; omega) (unhide QR)
      have F := hide (out_set (C := w.heap.size) po (by have := (unhide S0).size; have := (unhide B0).size; omega) (by omega) rz ((unhide B0).trans (SZ.mono (unhide B0).size)) #[u1, u2])
      clear po bz SZ k0 CM c0 cc1 cc2 cc3
      go_wp2_with (refine wpList_store_row rfl 27 (.tmp 8) (.tmp 40) rfl (w.heap.size + 1 + 1) _ rfl rfl 27 _ rz (unhide PS _ _) rfl one ?_)
      exact bodyPost_ret (results_row_tmp rfl _ _ (w.heap.size + 1 + 1) _ _ _ _ rfl (setRow_heap _ _ _ _ _ _ rz) Tryd.underlying27 rfl (unhide PS _ _)) rfl ⟨⟨_, rfl, (unhide F).1⟩, (unhide F).2⟩
    · have HR := unhide h3 e1 e2
      subst HR
      have d2 : ((o : Int) == (from' : Int)) = false := by simp; omega
      have d2' : ¬ (o : Int) = (from' : Int) := by omega
      clear h1 h2 h3 CU CM HX e1 e2
      go_wp2_with (refine wpList_load_row rfl 27 (.tmp 4) rfl w.heap.size rfl 27 _ (0, 0) _ k0 Tryd.underlying27 rfl (unhide PS _ _) ?_)
      refine (unhide CT _ (unhide S0)).mono ?_
      rintro e wz ⟨⟨v', rfl, po⟩, bz⟩
      obtain ⟨u1, u2, rfl, one⟩ := po.parts
      have SZ := (unhide S0).trans (bz.mono (unhide S0).size)
      have rz := Below.at SZ (by have := unhide SX; omega) (unhide QR)
      have F := hide (out_set (C := w.heap.size) po (by have := (unhide S0).size; have := (unhide B0).size; omega) (by omega) rz ((unhide B0).trans (SZ.mono (unhide B0).size)) #[u1, u2])
      clear po bz SZ k0 c0 cc1 cc2 cc3
      go_wp2_with (refine wpList_store_row rfl 27 (.tmp 8) (.tmp 43) rfl (w.heap.size + 1 + 1) _ rfl rfl 27 _ rz (unhide PS _ _) rfl one ?_)
      exact bodyPost_ret (results_row_tmp rfl _ _ (w.heap.size + 1 + 1) _ _ _ _ rfl (setRow_heap _ _ _ _ _ _ rz) Tryd.underlying27 rfl (unhide PS _ _)) rfl ⟨⟨_, rfl, (unhide F).1⟩, (unhide F).2⟩
end Go.Proofs.YtjfnaedcdmmigaaDoor

namespace Go.Proofs.YtjfnaedcdmmigaaDoor
open Go Go.RowKit
set_option linter.unusedSimpArgs false
set_option linter.unusedVariables false

theorem ptag_calls (p : Pl) (w : World) : Calls Tryd.prog 92 #[p.val] w fun e w' => e = .returned (.int .i64 (p.tag : Int)) ∧ w' = w := by
  have k := hide fun W => tag_calls p W
  generalize p.val = V at *
  go_enter Tryd.func92, Tryd.ntmps92
  go_wp2_with fail
  refine (unhide k _).mono ?_
  rintro e w1 ⟨rfl, rfl⟩
  go_wp2
  go_ret
  exact ⟨rfl, rfl⟩
set_option maxHeartbeats 4000000 in
set_option maxRecDepth 1000000 in
theorem handT_calls (ts : List Tkn) (hs : List Hol) (hn1 : ts.length ≤ 1000) (hn2 : hs.length ≤ 999) (htk : ∀ t ∈ ts, t.ok) (hok : ∀ h ∈ hs, h.ok) (v : Value) (here from' o : Nat) (n a : List UInt8) (hnl : n.length ≤ 1000) (hal : a.length ≤ 1000) (k : Nat) (hk : k < 18446744073709551616) (w : World) (hU : UTabs w) (hP : PM w v ts hs) :
    Calls Tryd.prog 60 #[v, .int .u32 (here : Int), .int .u32 (from' : Int), (Pl.tr o n a k).val] w fun e w' => (∃ v', e = .returned (.tuple #[v', .int .i64 ((pArr ts hs here from' o n a k).2.2 : Int)]) ∧ PO w' w.heap.size v' (pArr ts hs here from' o n a k).1 (pArr ts hs here from' o n a k).2.1) ∧ Below w.heap.size w w' := by
  obtain ⟨p1, c1, p2, c2, rfl, hT, hH⟩ := hP
  obtain ⟨q0, q1⟩ := al2 w (.cells #[.slice p1 ts.length c1, .slice p2 hs.length c2] 27) (.cells zPur 27)
  have b0 := bel2 w (.cells #[.slice p1 ts.length c1, .slice p2 hs.length c2] 27) (.cells zPur 27)
  have sX : ((w.alloc (.cells #[.slice p1 ts.length c1, .slice p2 hs.length c2] 27)).alloc (.cells zPur 27)).heap.size = w.heap.size + 1 + 1 := by simp
  obtain ⟨X, hX⟩ : ∃ X, (w.alloc (.cells #[.slice p1 ts.length c1, .slice p2 hs.length c2] 27)).alloc (.cells zPur 27) = X := ⟨_, rfl⟩
  have HX := hide hX
  rw [hX] at q0 q1 b0 sX
  have PX : PM X (.agg #[.slice p1 ts.length c1, .slice p2 hs.length c2]) ts hs := ⟨p1, c1, p2, c2, rfl, hT.below b0, hH.below b0⟩
  have CG := hide fun W => ptag_calls (.tr o n a k) W
  have ht1 : ((Pl.tr o n a k).tag : Int) = 1 := rfl
  rw [ht1] at CG
  have CA := hide fun W (hW : Below (w.heap.size + 1) X W) => arr_calls ts hs hn1 hn2 htk hok (.agg #[.slice p1 ts.length c1, .slice p2 hs.length c2]) here from' o n a hnl hal k hk W (hU.below' (b0.trans (hW.mono (Nat.le_succ _)))) ⟨p1, c1, p2, c2, rfl, VL.below hT (b0.trans (hW.mono (Nat.le_succ _))) (Nat.le_refl _), VL.below hH (b0.trans (hW.mono (Nat.le_succ _))) (Nat.le_refl _)⟩
  generalize pArr ts hs here from' o n a k = R at *
  have hv : (Pl.tr o n a k).val = .iface 105 (.agg (trCells o n a k)) := rfl
  rw [hv] at CG ⊢
  generalize trCells o n a k = TR at *
  have QR := hide q1
  have Q0 := hide q0
  have B0 := hide b0
  have SX := hide sX
  have PS := hide fun v1 v2 => purSz v1 v2
  unfold zPur at HX
  clear hT hH hX PX q0 q1 b0 sX hn1 hn2 htk hok hnl hal hU hk ht1 hv
  go_enter Tryd.func60, Tryd.ntmps60
  go_upto_region 1 with fail
  change Code.wp _ _ _ _ ((w.alloc (.cells #[.slice p1 ts.length c1, .slice p2 hs.length c2] 27)).alloc (.cells #[.slice none 0 0, .slice none 0 0] 27))
  rw [unhide HX]
  go_wp2_with fail
  refine (unhide CG _).mono ?_
  rintro e w1 ⟨rfl, rfl⟩
  go_upto_region 3 with fail
  have LP : Hid (∀ W, Below (w.heap.size + 1) w1 W → W.heap[w.heap.size]? = some (.cells #[.slice p1 ts.length c1, .slice p2 hs.length c2] 27 (0, 0))) := hide fun W hW => Below.at hW (Nat.lt_succ_self _) (unhide Q0)
  have hS0 : Below (w.heap.size + 1) w1 ({ w1 with drawn := w1.drawn + 1 } : World) := ⟨rfl, rfl, rfl, Nat.le_refl _, fun _ _ => rfl⟩
  refine wp_region_held (S := fun W => Below (w.heap.size + 1) w1 W) mixed ?_
  obtain ⟨d0, hd0⟩ : ∃ d, { w1 with drawn := w1.drawn + 1 } = d := ⟨_, rfl⟩
  have Q1d : Hid (d0.heap[w.heap.size + 1]? = some (.cells zPur 27 (0, 0))) := hide (by rw [← hd0]; exact unhide QR)
  have zd : Hid (w.heap.size + 1 + 1 ≤ d0.heap.size) := hide (by rw [← hd0]; exact Nat.le_of_eq (unhide SX).symm)
  rw [hd0] at hS0
  rw [hd0]
  clear hd0
  refine wpAnyH_take (i := 0) rfl (by kernel_rfl) (by kernel_rfl) (by kernel_rfl) (fun _ _ _ h => h) (yields_row (by kernel_rfl) 27 (.tmp 4) rfl w.heap.size (by kernel_rfl) 27 _ (0, 0) _ (fun W hW => unhide LP W hW) Tryd.underlying27 rfl (unhide PS _ _)) hS0 ?_
  refine wpAnyH_take (i := 1) (v := .int .u32 (here : Int)) rfl (by kernel_rfl) (by kernel_rfl) (by kernel_rfl) (fun _ _ _ h => h) (.inl ⟨by kernel_rfl, fun W _ => by kernel_rfl⟩) hS0 ?_
  refine wpAnyH_take (i := 2) (v := .int .u32 (from' : Int)) rfl (by kernel_rfl) (by kernel_rfl) (by kernel_rfl) (fun _ _ _ h => h) (.inl ⟨by kernel_rfl, fun W _ => by kernel_rfl⟩) hS0 ?_
  refine wpAnyH_take (i := 3) (v := .iface 105 (.agg TR)) rfl (by kernel_rfl) (by kernel_rfl) (by kernel_rfl) (fun _ _ _ h => h) (.inl ⟨by kernel_rfl, fun W _ => by kernel_rfl⟩) hS0 ?_
  refine wpAnyH_take (i := 4) (v := .agg TR) rfl (by kernel_rfl) (by kernel_rfl) (by kernel_rfl) (fun _ _ _ h => h) (.inl ⟨by kernel_rfl, fun W _ => by kernel_rfl⟩) hS0 ?_
  have S0 := hide hS0
  clear hS0
  refine wpAnyH_one 5 _ (by kernel_rfl) rfl ?_
  go_wp2_with fail
  refine (unhide CA _ (unhide S0)).mono ?_
  rintro e w3 ⟨⟨v', rfl, po⟩, b3⟩
  obtain ⟨u1, u2, rfl, one⟩ := po.parts
  have S3 : Hid (Below (w.heap.size + 1) w1 w3) := hide ((unhide S0).trans (b3.mono (by have := unhide zd; omega)))
  have p1' := Below.at b3 (by have := unhide zd; omega) (unhide Q1d)
  have F := hide (out_set (C := w.heap.size) po (by have := unhide zd; omega) (Nat.le_succ _) p1' ((unhide B0).trans ((unhide S3).mono (Nat.le_succ _))) #[u1, u2])
  have S4 : Hid (Below (w.heap.size + 1) w1 (w3.setRow (w.heap.size + 1) #[u1, u2])) := hide ((unhide S3).trans (below_setRow (Below.refl _ _) (Nat.le_refl _) _))
  clear po b3 LP
  go_wp2
  refine ⟨unhide S3, ?_⟩
  refine wpAnyH_take (i := 6) (v := .agg #[u1, u2]) rfl (by kernel_rfl) (by kernel_rfl) (by kernel_rfl) (fun _ _ _ h => h) (.inl ⟨by kernel_rfl, fun W _ => by kernel_rfl⟩) (unhide S3) ?_
  refine wpAnyH_take (i := 7) (v := .int .i64 (R.2.2 : Int)) rfl (by kernel_rfl) (by kernel_rfl) (by kernel_rfl) (fun _ _ _ h => h) (.inl ⟨by kernel_rfl, fun W _ => by kernel_rfl⟩) (unhide S3) ?_
  refine wpAnyH_one 8 _ (by kernel_rfl) rfl ?_
  have r1 := setRow_heap _ _ _ #[u1, u2] _ _ p1'
  refine wpList_store_row rfl 27 (.tmp 8) (.tmp 20) rfl (w.heap.size + 1) #[u1, u2] rfl rfl 27 _ p1' (unhide PS _ _) rfl one ?_
  go_wp2
  refine ⟨unhide S4, ?_⟩
  refine wpAnyH_one 9 _ (by kernel_rfl) rfl ?_
  go_wp2
  refine ⟨unhide S4, wpAnyH_done (by kernel_rfl) ?_ _⟩
  go_wp2
  exact bodyPost_ret (results_row_tmp rfl _ _ (w.heap.size + 1) _ _ _ _ rfl r1 Tryd.underlying27 rfl (unhide PS _ _)) rfl ⟨⟨_, rfl, (unhide F).1⟩, (unhide F).2⟩
end Go.Proofs.YtjfnaedcdmmigaaDoor

namespace Go.Proofs.YtjfnaedcdmmigaaDoor
open Go Go.RowKit
set_option linter.unusedSimpArgs false
set_option linter.unusedVariables false

theorem results_row_tmp2 {P : Program} {fn : Func} {p u v : Tmp} {ty : TypeId} (h : fn.results = #[.cell p ty, .tmp u, .tmp v]) (tmps : Array Value) (w : World) (g : Nat) (t : TypeId) (cs : Array Value) (fr : Nat × Nat) (d : TypeDesc)
    (hp : tmps.getD p undef = .pointer (some ⟨g, 0, none⟩)) (hg : w.heap[g]? = some (.cells cs t fr))
    (hu : P.underlying ty = some d) (hd : (match d with | .struct _ | .array _ _ => true | _ => false) = true) (hi : (P.info? ty).map (·.size) = some cs.size) :
    (results fn tmps).run P w = .ok (.tuple #[.agg cs, tmps.getD u undef, tmps.getD v undef]) w := by
  have hp' : tmps[p]?.getD undef = .pointer (some ⟨g, 0, none⟩) := by simpa using hp
  simp [results, h, hp', asAddr, run_loadVar_row w g t ty cs fr d hg hu hd hi]
/-- What sets out. -/
def pLeave (ts : List Tkn) (hs : List Hol) (here o : Nat) (n f : List UInt8) (k : Nat) : List Tkn × List Hol × Nat := if o = here then pLock ts hs o n f k else pBurn ts hs o n f k
def pSend (ts : List Tkn) (hs : List Hol) (here : Nat) (f : List UInt8) (o : Nat) (n a : List UInt8) (k : Nat) : List Tkn × List Hol × List UInt8 × Int :=
  if (pLeave ts hs here o n f k).2.2 = 0 then (if (Pl.tr o n a k).bytes.2 = 0 then ((pLeave ts hs here o n f k).1, (pLeave ts hs here o n f k).2.1, (Pl.tr o n a k).bytes.1, 0) else (ts, hs, [], (Pl.tr o n a k).bytes.2))
  else ((pLeave ts hs here o n f k).1, (pLeave ts hs here o n f k).2.1, [], ((pLeave ts hs here o n f k).2.2 : Int))
def sendC (f : List UInt8) (o : Nat) (n a : List UInt8) (k : Nat) (g : Nat) (x : Int) (v1 v2 v3 : Value) : Array Value := #[.string (str f), .int .u32 (o : Int), .string (str n), .string (str a), .int .u64 (k : Int), .int .u64 (g : Int), .int .i64 x, v1, v2, v3]
set_option maxHeartbeats 4000000 in
set_option maxRecDepth 1000000 in
theorem send_calls (ts : List Tkn) (hs : List Hol) (hn1 : ts.length ≤ 1000) (hn2 : hs.length ≤ 999) (htk : ∀ t ∈ ts, t.ok) (hok : ∀ h ∈ hs, h.ok) (v : Value) (here : Nat) (f : List UInt8) (o : Nat) (ho : o < 4294967296) (n a : List UInt8) (hfl : f.length ≤ 1000) (hnl : n.length ≤ 1000) (hal : a.length ≤ 1000) (k : Nat) (hk : k < 18446744073709551616) (gs : Nat) (xs : Int) (w1 w2 w3 : Value) (w : World) (hU : UTabs w) (hP : PM w v ts hs) :
    Calls Tryd.prog 25 #[v, .int .u32 (here : Int), .agg (sendC f o n a k gs xs w1 w2 w3)] w fun e w' => (∃ v', e = .returned (.tuple #[v', .string (str (pSend ts hs here f o n a k).2.2.1), .int .i64 (pSend ts hs here f o n a k).2.2.2]) ∧ PO w' w.heap.size v' (pSend ts hs here f o n a k).1 (pSend ts hs here f o n a k).2.1) ∧ Below w.heap.size w w' := by
  obtain ⟨p1, c1, p2, c2, rfl, hT, hH⟩ := hP
  obtain ⟨q0, q1, q2⟩ := al3 w (.cells #[.slice p1 ts.length c1, .slice p2 hs.length c2] 27) (.cells (sendC f o n a k gs xs w1 w2 w3) 62) (.cells zPur 27)
  have b0 := bel3 w (.cells #[.slice p1 ts.length c1, .slice p2 hs.length c2] 27) (.cells (sendC f o n a k gs xs w1 w2 w3) 62) (.cells zPur 27)
  have sX : (((w.alloc (.cells #[.slice p1 ts.length c1, .slice p2 hs.length c2] 27)).alloc (.cells (sendC f o n a k gs xs w1 w2 w3) 62)).alloc (.cells zPur 27)).heap.size = w.heap.size + 1 + 1 + 1 := by simp
  obtain ⟨X, hX⟩ : ∃ X, ((w.alloc (.cells #[.slice p1 ts.length c1, .slice p2 hs.length c2] 27)).alloc (.cells (sendC f o n a k gs xs w1 w2 w3) 62)).alloc (.cells zPur 27) = X := ⟨_, rfl⟩
  have HX := hide hX
  rw [hX] at q0 q1 q2 b0 sX
  have PX : PM X (.agg #[.slice p1 ts.length c1, .slice p2 hs.length c2]) ts hs := ⟨p1, c1, p2, c2, rfl, hT.below b0, hH.below b0⟩
  have CT := hide fun W (hW : Below X.heap.size X W) => twin_calls ts hs hn1 (by omega) _ W (PX.below hW)
  have CL := hide (lock_calls ts hs hn1 hn2 htk hok _ o n f hnl hfl k hk X (hU.below' b0) PX)
  have CB := hide (burn_calls ts hs hn1 hn2 htk hok _ o n f hnl hfl k hk X (hU.below' b0) PX)
  have CY := hide fun W => pbytes_calls (.tr o n a k) ⟨ho, hk⟩ ⟨by omega, by omega⟩ W
  have hv : (Pl.tr o n a k).val = .iface 105 (.agg #[.int .u32 (o : Int), .string (str n), .string (str a), .int .u64 (k : Int)]) := rfl
  rw [hv] at CY
  have h1 : Hid (o = here → pLeave ts hs here o n f k = pLock ts hs o n f k) := hide fun h => by unfold pLeave; rw [if_pos h]
  have h2 : Hid (¬ o = here → pLeave ts hs here o n f k = pBurn ts hs o n f k) := hide fun h => by unfold pLeave; rw [if_neg h]
  have HL : Hid (pSend ts hs here f o n a k = if (pLeave ts hs here o n f k).2.2 = 0 then (if (Pl.tr o n a k).bytes.2 = 0 then ((pLeave ts hs here o n f k).1, (pLeave ts hs here o n f k).2.1, (Pl.tr o n a k).bytes.1, 0) else (ts, hs, [], (Pl.tr o n a k).bytes.2)) else ((pLeave ts hs here o n f k).1, (pLeave ts hs here o n f k).2.1, [], ((pLeave ts hs here o n f k).2.2 : Int))) := hide rfl
  obtain ⟨R, hR⟩ : ∃ R, pSend ts hs here f o n a k = R := ⟨_, rfl⟩
  rw [hR] at HL
  rw [hR]
  generalize pLeave ts hs here o n f k = RL at *
  generalize pLock ts hs o n f k = RLo at *
  generalize pBurn ts hs o n f k = RBu at *
  generalize (Pl.tr o n a k).bytes = BB at *
  have QR := hide q2
  have Q0 := hide q0
  have Q1 := hide q1
  have B0 := hide b0
  have SX := hide sX
  have PS := hide fun v1 v2 => purSz v1 v2
  have CC : Hid (∀ W, Below X.heap.size X W → (W.cell? ⟨w.heap.size + 1, 0, none⟩ = some (.string (str f)) ∧ W.cell? ⟨w.heap.size + 1, 1, none⟩ = some (.int .u32 (o : Int)) ∧ W.cell? ⟨w.heap.size + 1, 2, none⟩ = some (.string (str n)) ∧ W.cell? ⟨w.heap.size + 1, 3, none⟩ = some (.string (str a)) ∧ W.cell? ⟨w.heap.size + 1, 4, none⟩ = some (.int .u64 (k : Int)))) := hide fun W hW => by
    have a1 := Below.at hW (by omega) q1
    exact ⟨cell_of_row _ _ _ _ _ _ a1, cell_of_row _ _ _ _ _ _ a1, cell_of_row _ _ _ _ _ _ a1, cell_of_row _ _ _ _ _ _ a1, cell_of_row _ _ _ _ _ _ a1⟩
  obtain ⟨cc0, cc1, cc2, cc3, cc4⟩ := unhide CC X (Below.refl _ _)
  unfold zPur at HX
  clear hT hH hX PX q1 q2 b0 sX hn1 hn2 htk hok hnl hal hfl hU hk ho hR hv
  go_enter Tryd.func25, Tryd.ntmps25
  go_upto_region 1 with fail
  change Code.wp _ _ _ _ (((w.alloc (.cells #[.slice p1 ts.length c1, .slice p2 hs.length c2] 27)).alloc (.cells (sendC f o n a k gs xs w1 w2 w3) 62)).alloc (.cells #[.slice none 0 0, .slice none 0 0] 27))
  rw [unhide HX]
  by_cases e1 : o = here
  · have hRL := unhide h1 e1
    subst e1
    have d1 := ()
    have d1' := ()
    clear h1 h2 CB HX
    go_wp2_with (refine wpList_load_row rfl 27 (.tmp 3) rfl w.heap.size rfl 27 _ (0, 0) _ q0 Tryd.underlying27 rfl (unhide PS _ _) ?_)
    refine (unhide CL).mono ?_
    rintro e Ww2 ⟨⟨v', rfl, po⟩, b2⟩
    obtain ⟨x1, x2, rfl, one⟩ := po.parts
    have S2 : Hid (Below X.heap.size X Ww2) := hide b2
    have PO2 := hide po
    clear b2 po CL q0 d1 d1' cc0 cc1 cc2 cc3 cc4
    go_upto_region 5 with (refine wpList_store_newV rfl 27 (.tmp 10) (.tmp 29) rfl Ww2 #[.slice none 0 0, .slice none 0 0] _ #[x1, x2] rfl rfl (unhide PS _ _) rfl one ?_; intro Ww3 q3 b3 z3)
    have S3 : Hid (Below X.heap.size X Ww3) := hide ((unhide S2).trans (b3.mono (unhide S2).size))
    have PO3 := hide ((unhide PO2).below b3)
    obtain ⟨G, hG⟩ : ∃ G, Ww2.heap.size = G := ⟨_, rfl⟩
    rw [hG] at q3
    simp only [hG]
    clear b3 z3 S2 hG PO2
    rw [hRL] at HL
    clear hRL
    by_cases h0 : RLo.2.2 = 0
    · have HR := unhide HL
      rw [if_pos h0] at HR
      have d0 : ((RLo.2.2 : Nat) : Int) = 0 := by omega
      rw [d0]
      obtain ⟨kk0, kk1, kk2, kk3, kk4⟩ := unhide CC Ww3 (unhide S3)
      have HL2 := hide HR
      have Q3 := hide q3
      clear HL HR h0 d0 q3
      go_wp2_with fail
      refine (unhide CY _).mono ?_
      rintro e Ww4 ⟨rfl, b4⟩
      have S4 : Hid (Below X.heap.size X Ww4) := hide ((unhide S3).trans (b4.mono (unhide S3).size))
      have PO4 := hide ((unhide PO3).below b4)
      have q4 := Below.at b4 (Array.getElem?_eq_some_iff.1 (unhide Q3)).1 (unhide Q3)
      clear b4 S3 PO3 Q3 CY kk0 kk1 kk2 kk3 kk4
      by_cases hb : BB.2 = 0
      · have HR := unhide HL2
        rw [if_pos hb] at HR
        subst HR
        rw [hb]
        have rz := Below.at (unhide S4) (by have := unhide SX; omega) (unhide QR)
        have F := hide (out_set (C := w.heap.size) (unhide PO4) (by have := (unhide B0).size; omega) (by omega) rz ((unhide B0).trans ((unhide S4).mono (unhide B0).size)) #[x1, x2])
        clear HL2 hb PO4 CT
        go_wp2_with (first
          | (refine wpList_load_row rfl 27 (.tmp 10) rfl G rfl 27 _ (0, 0) _ q4 Tryd.underlying27 rfl (unhide PS _ _) ?_)
          | (refine wpList_store_row rfl 27 (.tmp 6) (.tmp 54) rfl (w.heap.size + 1 + 1) _ rfl rfl 27 _ rz (unhide PS _ _) rfl one ?_))
        exact bodyPost_ret (results_row_tmp2 rfl _ _ (w.heap.size + 1 + 1) _ _ _ _ rfl (setRow_heap _ _ _ _ _ _ rz) Tryd.underlying27 rfl (unhide PS _ _)) rfl ⟨⟨_, rfl, (unhide F).1⟩, (unhide F).2⟩
      · have HR := unhide HL2
        rw [if_neg hb] at HR
        subst HR
        have d1 : (decide (BB.2 = 0)) = false := by simpa using hb
        have d2 : (BB.2 == 0) = false := by simpa using hb
        have k0 := Below.at (unhide S4) (by have := unhide SX; omega) (unhide Q0)
        clear HL2 PO4 q4
        go_wp2_with (refine wpList_load_row rfl 27 (.tmp 3) rfl w.heap.size rfl 27 _ (0, 0) _ k0 Tryd.underlying27 rfl (unhide PS _ _) ?_)
        refine (unhide CT _ (unhide S4)).mono ?_
        rintro e wz ⟨⟨v', rfl, po⟩, bz⟩
        obtain ⟨u1, u2, rfl, one2⟩ := po.parts
        have SZ := (unhide S4).trans (bz.mono (unhide S4).size)
        have rz := Below.at SZ (by have := unhide SX; omega) (unhide QR)
        have F := hide (out_set (C := w.heap.size) po (by have := (unhide S4).size; have := (unhide B0).size; omega) (by omega) rz ((unhide B0).trans (SZ.mono (unhide B0).size)) #[u1, u2])
        clear po bz SZ k0
        go_wp2_with (refine wpList_store_row rfl 27 (.tmp 6) (.tmp 52) rfl (w.heap.size + 1 + 1) _ rfl rfl 27 _ rz (unhide PS _ _) rfl one2 ?_)
        exact bodyPost_ret (results_row_tmp2 rfl _ _ (w.heap.size + 1 + 1) _ _ _ _ rfl (setRow_heap _ _ _ _ _ _ rz) Tryd.underlying27 rfl (unhide PS _ _)) rfl ⟨⟨_, rfl, (unhide F).1⟩, (unhide F).2⟩
    · have HR := unhide HL
      rw [if_neg h0] at HR
      subst HR
      have d0 : ¬ ((RLo.2.2 : Nat) : Int) = 0 := by omega
      have rz := Below.at (unhide S3) (by have := unhide SX; omega) (unhide QR)
      have F := hide (out_set (C := w.heap.size) (unhide PO3) (by have := (unhide B0).size; omega) (by omega) rz ((unhide B0).trans ((unhide S3).mono (unhide B0).size)) #[x1, x2])
      clear HL h0 CY CT PO3
      go_wp2_with (first
        | (refine wpList_load_row rfl 27 (.tmp 10) rfl G rfl 27 _ (0, 0) _ q3 Tryd.underlying27 rfl (unhide PS _ _) ?_)
        | (refine wpList_store_row rfl 27 (.tmp 6) (.tmp 33) rfl (w.heap.size + 1 + 1) _ rfl rfl 27 _ rz (unhide PS _ _) rfl one ?_))
      exact bodyPost_ret (results_row_tmp2 rfl _ _ (w.heap.size + 1 + 1) _ _ _ _ rfl (setRow_heap _ _ _ _ _ _ rz) Tryd.underlying27 rfl (unhide PS _ _)) rfl ⟨⟨_, rfl, (unhide F).1⟩, (unhide F).2⟩
  · have hRL := unhide h2 e1
    have d1 : ((o : Int) == (here : Int)) = false := by simp; omega
    have d1' : ¬ (o : Int) = (here : Int) := by omega
    clear h1 h2 CL HX e1
    go_wp2_with (refine wpList_load_row rfl 27 (.tmp 3) rfl w.heap.size rfl 27 _ (0, 0) _ q0 Tryd.underlying27 rfl (unhide PS _ _) ?_)
    refine (unhide CB).mono ?_
    rintro e Ww2 ⟨⟨v', rfl, po⟩, b2⟩
    obtain ⟨x1, x2, rfl, one⟩ := po.parts
    have S2 : Hid (Below X.heap.size X Ww2) := hide b2
    have PO2 := hide po
    clear b2 po CB q0 d1 d1' cc0 cc1 cc2 cc3 cc4
    go_upto_region 5 with (refine wpList_store_newV rfl 27 (.tmp 10) (.tmp 29) rfl Ww2 #[.slice none 0 0, .slice none 0 0] _ #[x1, x2] rfl rfl (unhide PS _ _) rfl one ?_; intro Ww3 q3 b3 z3)
    have S3 : Hid (Below X.heap.size X Ww3) := hide ((unhide S2).trans (b3.mono (unhide S2).size))
    have PO3 := hide ((unhide PO2).below b3)
    obtain ⟨G, hG⟩ : ∃ G, Ww2.heap.size = G := ⟨_, rfl⟩
    rw [hG] at q3
    simp only [hG]
    clear b3 z3 S2 hG PO2
    rw [hRL] at HL
    clear hRL
    by_cases h0 : RBu.2.2 = 0
    · have HR := unhide HL
      rw [if_pos h0] at HR
      have d0 : ((RBu.2.2 : Nat) : Int) = 0 := by omega
      rw [d0]
      obtain ⟨kk0, kk1, kk2, kk3, kk4⟩ := unhide CC Ww3 (unhide S3)
      have HL2 := hide HR
      have Q3 := hide q3
      clear HL HR h0 d0 q3
      go_wp2_with fail
      refine (unhide CY _).mono ?_
      rintro e Ww4 ⟨rfl, b4⟩
      have S4 : Hid (Below X.heap.size X Ww4) := hide ((unhide S3).trans (b4.mono (unhide S3).size))
      have PO4 := hide ((unhide PO3).below b4)
      have q4 := Below.at b4 (Array.getElem?_eq_some_iff.1 (unhide Q3)).1 (unhide Q3)
      clear b4 S3 PO3 Q3 CY kk0 kk1 kk2 kk3 kk4
      by_cases hb : BB.2 = 0
      · have HR := unhide HL2
        rw [if_pos hb] at HR
        subst HR
        rw [hb]
        have rz := Below.at (unhide S4) (by have := unhide SX; omega) (unhide QR)
        have F := hide (out_set (C := w.heap.size) (unhide PO4) (by have := (unhide B0).size; omega) (by omega) rz ((unhide B0).trans ((unhide S4).mono (unhide B0).size)) #[x1, x2])
        clear HL2 hb PO4 CT
        go_wp2_with (first
          | (refine wpList_load_row rfl 27 (.tmp 10) rfl G rfl 27 _ (0, 0) _ q4 Tryd.underlying27 rfl (unhide PS _ _) ?_)
          | (refine wpList_store_row rfl 27 (.tmp 6) (.tmp 54) rfl (w.heap.size + 1 + 1) _ rfl rfl 27 _ rz (unhide PS _ _) rfl one ?_))
        exact bodyPost_ret (results_row_tmp2 rfl _ _ (w.heap.size + 1 + 1) _ _ _ _ rfl (setRow_heap _ _ _ _ _ _ rz) Tryd.underlying27 rfl (unhide PS _ _)) rfl ⟨⟨_, rfl, (unhide F).1⟩, (unhide F).2⟩
      · have HR := unhide HL2
        rw [if_neg hb] at HR
        subst HR
        have d1 : (decide (BB.2 = 0)) = false := by simpa using hb
        have d2 : (BB.2 == 0) = false := by simpa using hb
        have k0 := Below.at (unhide S4) (by have := unhide SX; omega) (unhide Q0)
        clear HL2 PO4 q4
        go_wp2_with (refine wpList_load_row rfl 27 (.tmp 3) rfl w.heap.size rfl 27 _ (0, 0) _ k0 Tryd.underlying27 rfl (unhide PS _ _) ?_)
        refine (unhide CT _ (unhide S4)).mono ?_
        rintro e wz ⟨⟨v', rfl, po⟩, bz⟩
        obtain ⟨u1, u2, rfl, one2⟩ := po.parts
        have SZ := (unhide S4).trans (bz.mono (unhide S4).size)
        have rz := Below.at SZ (by have := unhide SX; omega) (unhide QR)
        have F := hide (out_set (C := w.heap.size) po (by have := (unhide S4).size; have := (unhide B0).size; omega) (by omega) rz ((unhide B0).trans (SZ.mono (unhide B0).size)) #[u1, u2])
        clear po bz SZ k0
        go_wp2_with (refine wpList_store_row rfl 27 (.tmp 6) (.tmp 52) rfl (w.heap.size + 1 + 1) _ rfl rfl 27 _ rz (unhide PS _ _) rfl one2 ?_)
        exact bodyPost_ret (results_row_tmp2 rfl _ _ (w.heap.size + 1 + 1) _ _ _ _ rfl (setRow_heap _ _ _ _ _ _ rz) Tryd.underlying27 rfl (unhide PS _ _)) rfl ⟨⟨_, rfl, (unhide F).1⟩, (unhide F).2⟩
    · have HR := unhide HL
      rw [if_neg h0] at HR
      subst HR
      have d0 : ¬ ((RBu.2.2 : Nat) : Int) = 0 := by omega
      have rz := Below.at (unhide S3) (by have := unhide SX; omega) (unhide QR)
      have F := hide (out_set (C := w.heap.size) (unhide PO3) (by have := (unhide B0).size; omega) (by omega) rz ((unhide B0).trans ((unhide S3).mono (unhide B0).size)) #[x1, x2])
      clear HL h0 CY CT PO3
      go_wp2_with (first
        | (refine wpList_load_row rfl 27 (.tmp 10) rfl G rfl 27 _ (0, 0) _ q3 Tryd.underlying27 rfl (unhide PS _ _) ?_)
        | (refine wpList_store_row rfl 27 (.tmp 6) (.tmp 33) rfl (w.heap.size + 1 + 1) _ rfl rfl 27 _ rz (unhide PS _ _) rfl one ?_))
      exact bodyPost_ret (results_row_tmp2 rfl _ _ (w.heap.size + 1 + 1) _ _ _ _ rfl (setRow_heap _ _ _ _ _ _ rz) Tryd.underlying27 rfl (unhide PS _ _)) rfl ⟨⟨_, rfl, (unhide F).1⟩, (unhide F).2⟩
end Go.Proofs.YtjfnaedcdmmigaaDoor

namespace Go.Proofs.YtjfnaedcdmmigaaDoor
open Go Go.RowKit
set_option linter.unusedSimpArgs false
set_option linter.unusedVariables false

set_option maxHeartbeats 4000000 in
set_option maxRecDepth 1000000 in
theorem handleN_calls (ts : List Tkn) (hs : List Hol) (hn1 : ts.length ≤ 1000) (hn2 : hs.length ≤ 999) (v : Value) (here : Nat) (remote : List UInt8) (fr nc tt : Nat) (sa sb bd : List UInt8) (hr : pIsR remote sa sb = false) (w : World) (hP : PM w v ts hs) :
    Calls Tryd.prog 26 #[v, .int .u32 (here : Int), .string (str remote), .agg (ltc fr nc tt sa sb bd)] w fun e w' => (∃ v', e = .returned (.tuple #[v', .nilIface, .int .i64 39]) ∧ PO w' w.heap.size v' ts hs) ∧ Below w.heap.size w w' := by
  obtain ⟨p1, c1, p2, c2, rfl, hT, hH⟩ := hP
  obtain ⟨q0, q1, q2⟩ := al3 w (.cells #[.slice p1 ts.length c1, .slice p2 hs.length c2] 27) (.cells (ltc fr nc tt sa sb bd) 66) (.cells zPur 27)
  have b0 := bel3 w (.cells #[.slice p1 ts.length c1, .slice p2 hs.length c2] 27) (.cells (ltc fr nc tt sa sb bd) 66) (.cells zPur 27)
  have sX : (((w.alloc (.cells #[.slice p1 ts.length c1, .slice p2 hs.length c2] 27)).alloc (.cells (ltc fr nc tt sa sb bd) 66)).alloc (.cells zPur 27)).heap.size = w.heap.size + 1 + 1 + 1 := by simp
  obtain ⟨X, hX⟩ : ∃ X, ((w.alloc (.cells #[.slice p1 ts.length c1, .slice p2 hs.length c2] 27)).alloc (.cells (ltc fr nc tt sa sb bd) 66)).alloc (.cells zPur 27) = X := ⟨_, rfl⟩
  have HX := hide hX
  rw [hX] at q0 q1 q2 b0 sX
  have PX : PM X (.agg #[.slice p1 ts.length c1, .slice p2 hs.length c2]) ts hs := ⟨p1, c1, p2, c2, rfl, hT.below b0, hH.below b0⟩
  have CI := hide fun W => isR_calls remote fr nc tt sa sb bd W
  have CT := hide fun W (hW : Below X.heap.size X W) => twin_calls ts hs hn1 (by omega) _ W (PX.below hW)
  have lti : (Tryd.prog.info? 66).map (·.size) = some (ltc fr nc tt sa sb bd).size := by unfold ltc; kernel_rfl
  rw [hr] at CI
  have QR := hide q2
  have Q0 := hide q0
  have B0 := hide b0
  have SX := hide sX
  have PS := hide fun v1 v2 => purSz v1 v2
  obtain ⟨LL, hLL⟩ : ∃ l, ltc fr nc tt sa sb bd = l := ⟨_, rfl⟩
  rw [hLL] at q1 HX CI lti
  rw [hLL]
  clear hT hH hX PX q2 b0 sX hn1 hn2 hr hLL
  unfold zPur at HX
  go_enter Tryd.func26, Tryd.ntmps26
  go_upto_region 1 with fail
  change Code.wp _ _ _ _ (((w.alloc (.cells #[.slice p1 ts.length c1, .slice p2 hs.length c2] 27)).alloc (.cells LL 66)).alloc (.cells #[.slice none 0 0, .slice none 0 0] 27))
  rw [unhide HX]
  go_wp2_with (refine wpList_load_row rfl 66 (.tmp 7) rfl (w.heap.size + 1) rfl 66 _ (0, 0) _ q1 Tryd.underlying66 rfl lti ?_)
  refine (unhide CI _).mono ?_
  rintro e w2 ⟨rfl, b2⟩
  have S2 : Hid (Below X.heap.size X w2) := hide b2
  clear b2 CI lti q0
  have k0 := Below.at (unhide S2) (by have := unhide SX; omega) (unhide Q0)
  clear q1
  go_wp2_with (refine wpList_load_row rfl 27 (.tmp 4) rfl w.heap.size rfl 27 _ (0, 0) _ k0 Tryd.underlying27 rfl (unhide PS _ _) ?_)
  refine (unhide CT _ (unhide S2)).mono ?_
  rintro e wz ⟨⟨v', rfl, po⟩, bz⟩
  obtain ⟨u1, u2, rfl, one⟩ := po.parts
  have SZ := (unhide S2).trans (bz.mono (unhide S2).size)
  have rz := Below.at SZ (by have := unhide SX; omega) (unhide QR)
  have F := hide (out_set (C := w.heap.size) po (by have := (unhide S2).size; have := (unhide B0).size; omega) (by omega) rz ((unhide B0).trans (SZ.mono (unhide B0).size)) #[u1, u2])
  clear po bz SZ k0
  go_wp2_with (refine wpList_store_row rfl 27 (.tmp 8) (.tmp 19) rfl (w.heap.size + 1 + 1) _ rfl rfl 27 _ rz (unhide PS _ _) rfl one ?_)
  exact bodyPost_ret (results_row_tmp2 rfl _ _ (w.heap.size + 1 + 1) _ _ _ _ rfl (setRow_heap _ _ _ _ _ _ rz) Tryd.underlying27 rfl (unhide PS _ _)) rfl ⟨⟨_, rfl, (unhide F).1⟩, (unhide F).2⟩
/-- What Handle leaves of a letter with a Transfer; the payload's value. -/
def pHanV (E : Nat) (V : Value) : Value := if E = 0 then V else .nilIface
set_option maxHeartbeats 4000000 in
set_option maxRecDepth 1000000 in
theorem handleT_calls (ts : List Tkn) (hs : List Hol) (hn1 : ts.length ≤ 1000) (hn2 : hs.length ≤ 999) (htk : ∀ t ∈ ts, t.ok) (hok : ∀ h ∈ hs, h.ok) (v : Value) (here : Nat) (remote : List UInt8) (fr nc tt : Nat) (sa sb bd : List UInt8) (hr : pIsR remote sa sb = true) (o : Nat) (n a : List UInt8) (k : Nat) (hbd : pPRead bd = (.tr o n a k, 0)) (hbl : bd.length ≤ 100000) (hnl : n.length ≤ 1000) (hal : a.length ≤ 1000) (hk : k < 18446744073709551616) (w : World) (hU : UTabs w) (hP : PM w v ts hs) :
    Calls Tryd.prog 26 #[v, .int .u32 (here : Int), .string (str remote), .agg (ltc fr nc tt sa sb bd)] w fun e w' => (∃ v', e = .returned (.tuple #[v', pHanV (pArr ts hs here fr o n a k).2.2 (Pl.tr o n a k).val, .int .i64 ((pArr ts hs here fr o n a k).2.2 : Int)]) ∧ PO w' w.heap.size v' (pArr ts hs here fr o n a k).1 (pArr ts hs here fr o n a k).2.1) ∧ Below w.heap.size w w' := by
  obtain ⟨p1, c1, p2, c2, rfl, hT, hH⟩ := hP
  obtain ⟨q0, q1, q2⟩ := al3 w (.cells #[.slice p1 ts.length c1, .slice p2 hs.length c2] 27) (.cells (ltc fr nc tt sa sb bd) 66) (.cells zPur 27)
  have b0 := bel3 w (.cells #[.slice p1 ts.length c1, .slice p2 hs.length c2] 27) (.cells (ltc fr nc tt sa sb bd) 66) (.cells zPur 27)
  have sX : (((w.alloc (.cells #[.slice p1 ts.length c1, .slice p2 hs.length c2] 27)).alloc (.cells (ltc fr nc tt sa sb bd) 66)).alloc (.cells zPur 27)).heap.size = w.heap.size + 1 + 1 + 1 := by simp
  obtain ⟨X, hX⟩ : ∃ X, ((w.alloc (.cells #[.slice p1 ts.length c1, .slice p2 hs.length c2] 27)).alloc (.cells (ltc fr nc tt sa sb bd) 66)).alloc (.cells zPur 27) = X := ⟨_, rfl⟩
  have HX := hide hX
  rw [hX] at q0 q1 q2 b0 sX
  have PX : PM X (.agg #[.slice p1 ts.length c1, .slice p2 hs.length c2]) ts hs := ⟨p1, c1, p2, c2, rfl, hT.below b0, hH.below b0⟩
  have CI := hide fun W => isR_calls remote fr nc tt sa sb bd W
  have CT := hide fun W (hW : Below X.heap.size X W) => twin_calls ts hs hn1 (by omega) _ W (PX.below hW)
  have lti : (Tryd.prog.info? 66).map (·.size) = some (ltc fr nc tt sa sb bd).size := by unfold ltc; kernel_rfl
  rw [hr] at CI
  have CR := hide fun W => pread_calls bd (by omega) W
  rw [hbd] at CR
  have CA := hide fun W (hW : Below X.heap.size X W) => handT_calls ts hs hn1 hn2 htk hok (.agg #[.slice p1 ts.length c1, .slice p2 hs.length c2]) here fr o n a hnl hal k hk W ((hU.below' b0).below' hW) (PX.below hW)
  have c0 : X.cell? ⟨w.heap.size + 1, 0, none⟩ = some (.int .u32 (fr : Int)) := cell_of_row _ _ _ _ _ _ q1
  have c5 : X.cell? ⟨w.heap.size + 1, 5, none⟩ = some (.string (str bd)) := cell_of_row _ _ _ _ _ _ q1
  have CC : Hid (∀ W, Below X.heap.size X W → W.cell? ⟨w.heap.size + 1, 0, none⟩ = some (.int .u32 (fr : Int)) ∧ W.cell? ⟨w.heap.size + 1, 5, none⟩ = some (.string (str bd))) := hide fun W hW => by
    have a1 := Below.at hW (by omega) q1
    exact ⟨cell_of_row _ _ _ _ _ _ a1, cell_of_row _ _ _ _ _ _ a1⟩
  generalize pArr ts hs here fr o n a k = R at *
  obtain ⟨PV, hPV⟩ : ∃ V, (Pl.tr o n a k).val = V := ⟨_, rfl⟩
  have ePV : (((Pl.tr o n a k), (0 : Int)) : Pl × Int).1.val = PV := hPV
  have HPV := hide (show ∃ t u, PV = .iface t u from ⟨_, _, hPV.symm⟩)
  rw [hPV] at CA
  rw [ePV] at CR
  rw [hPV]
  have QR := hide q2
  have Q0 := hide q0
  have B0 := hide b0
  have SX := hide sX
  have PS := hide fun v1 v2 => purSz v1 v2
  obtain ⟨LL, hLL⟩ : ∃ l, ltc fr nc tt sa sb bd = l := ⟨_, rfl⟩
  rw [hLL] at q1 HX CI lti
  rw [hLL]
  clear hT hH hX PX q2 b0 sX hn1 hn2 hr hLL hbd hbl hnl hal hk hU htk hok c0 c5 hPV ePV
  unfold zPur at HX
  go_enter Tryd.func26, Tryd.ntmps26
  go_upto_region 1 with fail
  change Code.wp _ _ _ _ (((w.alloc (.cells #[.slice p1 ts.length c1, .slice p2 hs.length c2] 27)).alloc (.cells LL 66)).alloc (.cells #[.slice none 0 0, .slice none 0 0] 27))
  rw [unhide HX]
  go_wp2_with (refine wpList_load_row rfl 66 (.tmp 7) rfl (w.heap.size + 1) rfl 66 _ (0, 0) _ q1 Tryd.underlying66 rfl lti ?_)
  refine (unhide CI _).mono ?_
  rintro e w2 ⟨rfl, b2⟩
  have S2 : Hid (Below X.heap.size X w2) := hide b2
  clear b2 CI lti q0
  obtain ⟨cc0, cc5⟩ := unhide CC w2 (unhide S2)
  clear q1
  go_wp2_with fail
  refine (unhide CR _).mono ?_
  rintro e w3 ⟨rfl, b3⟩
  have S3 : Hid (Below X.heap.size X w3) := hide ((unhide S2).trans (b3.mono (unhide S2).size))
  have k0 := Below.at (unhide S3) (by have := unhide SX; omega) (unhide Q0)
  clear b3 S2 CR cc0 cc5
  obtain ⟨cc0, cc5⟩ := unhide CC w3 (unhide S3)
  go_wp2_with (refine wpList_load_row rfl 27 (.tmp 4) rfl w.heap.size rfl 27 _ (0, 0) _ k0 Tryd.underlying27 rfl (unhide PS _ _) ?_)
  refine (unhide CA _ (unhide S3)).mono ?_
  rintro e w4 ⟨⟨v', rfl, po⟩, b4⟩
  obtain ⟨x1, x2, rfl, one⟩ := po.parts
  have S4 : Hid (Below X.heap.size X w4) := hide ((unhide S3).trans (b4.mono (unhide S3).size))
  have PO4 := hide (po.base (unhide S3).size)
  clear b4 po S3 CA k0 cc0 cc5
  go_upto_region 7 with (refine wpList_store_newV rfl 27 (.tmp 13) (.tmp 37) rfl w4 #[.slice none 0 0, .slice none 0 0] _ #[x1, x2] rfl rfl (unhide PS _ _) rfl one ?_; intro w5 q5 b5 z5)
  have S5 : Hid (Below X.heap.size X w5) := hide ((unhide S4).trans (b5.mono (unhide S4).size))
  have PO5 := hide ((unhide PO4).below b5)
  obtain ⟨G, hG⟩ : ∃ G, w4.heap.size = G := ⟨_, rfl⟩
  rw [hG] at q5
  simp only [hG]
  clear b5 z5 S4 hG PO4 CT
  have rz := Below.at (unhide S5) (by have := unhide SX; omega) (unhide QR)
  have F := hide (out_set (C := w.heap.size) (unhide PO5) (by have := (unhide B0).size; omega) (by omega) rz ((unhide B0).trans ((unhide S5).mono (unhide B0).size)) #[x1, x2])
  clear PO5
  by_cases h0 : R.2.2 = 0
  · have hE : pHanV R.2.2 PV = PV := by unfold pHanV; rw [if_pos h0]
    have d0 : ((R.2.2 : Nat) : Int) = 0 := by omega
    have HE := hide (show pHanV R.2.2 PV = PV ∧ ((R.2.2 : Nat) : Int) = 0 from ⟨hE, d0⟩)
    rw [d0]
    clear hE d0 h0
    go_wp2_with (first
      | (refine wpList_load_row rfl 27 (.tmp 13) rfl G rfl 27 _ (0, 0) _ q5 Tryd.underlying27 rfl (unhide PS _ _) ?_)
      | (refine wpList_store_row rfl 27 (.tmp 8) (.tmp 43) rfl (w.heap.size + 1 + 1) _ rfl rfl 27 _ rz (unhide PS _ _) rfl one ?_))
    exact bodyPost_ret (results_row_tmp2 rfl _ _ (w.heap.size + 1 + 1) _ _ _ _ rfl (setRow_heap _ _ _ _ _ _ rz) Tryd.underlying27 rfl (unhide PS _ _)) rfl ⟨⟨_, by rw [(unhide HE).1, (unhide HE).2]; rfl, (unhide F).1⟩, (unhide F).2⟩
  · have hE : pHanV R.2.2 PV = .nilIface := by unfold pHanV; rw [if_neg h0]
    have d0 : ¬ ((R.2.2 : Nat) : Int) = 0 := by omega
    have HE := hide hE
    clear hE h0
    go_wp2_with (first
      | (refine wpList_load_row rfl 27 (.tmp 13) rfl G rfl 27 _ (0, 0) _ q5 Tryd.underlying27 rfl (unhide PS _ _) ?_)
      | (refine wpList_store_row rfl 27 (.tmp 8) (.tmp 41) rfl (w.heap.size + 1 + 1) _ rfl rfl 27 _ rz (unhide PS _ _) rfl one ?_))
    exact bodyPost_ret (results_row_tmp2 rfl _ _ (w.heap.size + 1 + 1) _ _ _ _ rfl (setRow_heap _ _ _ _ _ _ rz) Tryd.underlying27 rfl (unhide PS _ _)) rfl ⟨⟨_, by rw [unhide HE]; rfl, (unhide F).1⟩, (unhide F).2⟩
end Go.Proofs.YtjfnaedcdmmigaaDoor

namespace Go.Proofs.YtjfnaedcdmmigaaDoor
open Go Go.RowKit
set_option linter.unusedSimpArgs false
set_option linter.unusedVariables false

def tMint : List UInt8 := [109, 105, 110, 116]
def tAda : List UInt8 := [97, 100, 97]
def tBob : List UInt8 := [98, 111, 98]
/-- One holding, none of 0. -/
def hW (who : List UInt8) (h : Nat) : List Hol := if 0 < h then [⟨1, tMint, who, h⟩] else []
theorem right_mint : pRight tMint = true := by decide +kernel
theorem right_ada : pRight tAda = true := by decide +kernel
theorem right_bob : pRight tBob = true := by decide +kernel
theorem hW_len (who : List UInt8) (h : Nat) : (hW who h).length ≤ 1 := by unfold hW; split <;> simp
theorem hW_ok (who : List UInt8) (hw : who.length ≤ 1000) (h : Nat) (hh : h < 18446744073709551616) : ∀ x ∈ hW who h, x.ok := by
  intro x hx
  unfold hW at hx
  split at hx
  · simp at hx; subst hx; exact ⟨show (1 : Nat) < 4294967296 by decide, show tMint.length ≤ 1000 by decide, hw, hh⟩
  · simp at hx
theorem hW_he (who : List UInt8) (h : Nat) : pHe (hW who h) 1 tMint who = h := by
  unfold hW
  split
  · simp [pHe, isH]
  · simp [pHe]; omega
theorem hW_with (who : List UInt8) (h m : Nat) : pWith (hW who h) 1 tMint who m = hW who m := by
  unfold hW
  by_cases h0 : 0 < h
  · rw [if_pos h0]
    by_cases m0 : 0 < m
    · rw [if_pos m0]
      simp [pWith, isH, List.findIdx, List.findIdx.go, m0]
    · rw [if_neg m0]
      simp [pWith, isH, List.findIdx, List.findIdx.go, m0]
  · rw [if_neg h0]
    by_cases m0 : 0 < m
    · rw [if_pos m0]
      simp [pWith, isH, List.findIdx, List.findIdx.go, m0]
    · rw [if_neg m0]
      simp [pWith, isH, List.findIdx, List.findIdx.go, m0]
theorem one_kn (t : Tkn) (ho : t.o = 1) (hn : t.n = tMint) : pKn [t] 1 tMint = some t := by simp [pKn, isT, ho, hn]
theorem one_set (t u : Tkn) (ho : t.o = u.o) (hn : t.n = u.n) : pSetT [t] u = [u] := by simp [pSetT, isT, ho, hn, List.findIdx, List.findIdx.go]
theorem hW_less (who : List UInt8) (h k : Nat) : pLess (hW who h) 1 tMint who k = if h < k then (hW who h, 11) else (hW who (h - k), 0) := by
  unfold pLess; rw [hW_he, hW_with]
theorem hW_grant (t : Tkn) (ho : t.o = 1) (hn : t.n = tMint) (who : List UInt8) (hr : pRight who = true) (h k : Nat) (hk : h + k < 18446744073709551616) : pGrant [t] (hW who h) 1 tMint who k = (hW who (h + k), 0) := by
  unfold pGrant
  rw [one_kn t ho hn, hr, hW_he, hW_with]
  simp [hk]
theorem hW_gb (t u : Tkn) (ho : t.o = 1) (hn : t.n = tMint) (huo : u.o = 1) (hun : u.n = tMint) (who : List UInt8) (hr : pRight who = true) (h k : Nat) (hk : h + k < 18446744073709551616) : pGB [t] (hW who h) u who k = ([u], hW who (h + k), 0) := by
  unfold pGB
  rw [huo, hun, hW_grant t ho hn who hr h k hk, if_pos rfl, one_set t u (by rw [ho, huo]) (by rw [hn, hun])]
theorem hW_lock (t : Tkn) (ho : t.o = 1) (hn : t.n = tMint) (who : List UInt8) (h k : Nat) (hk : t.lk + k < 18446744073709551616) : pLock [t] (hW who h) 1 tMint who k = if h < k then ([t], hW who h, 11) else ([{ t with lk := t.lk + k }], hW who (h - k), 0) := by
  unfold pLock
  rw [one_kn t ho hn]
  simp only [hW_less]
  by_cases hh : h < k
  · rw [if_pos hh, if_pos hh]; rfl
  · rw [if_neg hh, if_neg hh, if_pos rfl, if_pos hk, one_set t { t with lk := t.lk + k } rfl rfl]
theorem hW_burn (t : Tkn) (ho : t.o = 1) (hn : t.n = tMint) (who : List UInt8) (h k : Nat) (hk : t.bu + k < 18446744073709551616) (hh : ¬ h < k) : pBurn [t] (hW who h) 1 tMint who k = ([{ t with bu := t.bu + k }], hW who (h - k), 0) := by
  unfold pBurn
  rw [one_kn t ho hn]
  simp only [hW_less]
  rw [if_neg hh, if_pos rfl, if_pos hk, one_set t { t with bu := t.bu + k } rfl rfl]
theorem hW_unlock (t : Tkn) (ho : t.o = 1) (hn : t.n = tMint) (who : List UInt8) (hr : pRight who = true) (h k : Nat) (hl : ¬ t.lk - t.ul < k) (hu : t.ul + k < 18446744073709551616) (hk : h + k < 18446744073709551616) : pUnlock [t] (hW who h) 1 tMint who k = ([{ t with ul := t.ul + k }], hW who (h + k), 0) := by
  unfold pUnlock
  rw [one_kn t ho hn]
  simp only [if_neg hl, if_pos hu]
  exact hW_gb t { t with ul := t.ul + k } ho hn ho hn who hr h k hk
theorem hW_mint (t : Tkn) (ho : t.o = 1) (hn : t.n = tMint) (who : List UInt8) (hr : pRight who = true) (h k : Nat) (hu : t.mi + k < 18446744073709551616) (hk : h + k < 18446744073709551616) : pMint [t] (hW who h) 1 tMint who k = if (t.mi - t.bu) + k ≤ t.cap then ([{ t with mi := t.mi + k }], hW who (h + k), 0) else ([t], hW who h, 12) := by
  unfold pMint
  rw [one_kn t ho hn]
  simp only [if_pos hu]
  split
  · exact hW_gb t { t with mi := t.mi + k } ho hn ho hn who hr h k hk
  · rfl
theorem one_enlist (c : Nat) : pEnlist [] 1 tMint c = ([⟨1, tMint, c, 0, 0, 0, 0⟩], 0) := by
  unfold pEnlist
  rw [right_mint]
  simp
theorem tr_bytes (who : List UInt8) (hr : pRight who = true) (n : Nat) : (Pl.tr 1 tMint who n).bytes.2 = if n = 0 then 4 else 0 := by
  unfold Pl.bytes
  have h1 : (Pl.tr 1 tMint who n).tag = 1 := rfl
  have h2 : (Pl.tr 1 tMint who n).right = !decide (n = 0) := by simp [Pl.right, right_mint, hr]
  rw [h1, h2]
  by_cases h : n = 0 <;> simp [h]
theorem tr_len (who : List UInt8) (hw : who.length = 3) (n : Nat) : (Pl.tr 1 tMint who n).bytes.1.length ≤ 100000 := by
  unfold Pl.bytes
  split
  · simp
  · split
    · simp [Pl.tag, Pl.fields, pText4, pBig_length, hw, tMint]
    · simp
end Go.Proofs.YtjfnaedcdmmigaaDoor
