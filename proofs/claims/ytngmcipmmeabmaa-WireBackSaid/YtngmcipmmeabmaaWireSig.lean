/-
  WHAT wire's Sig RETURNS.
-/
import Derived.Test.YtngmcipmmeabmaaWireDigests
import Derived.Test.YtngmcipmmeabmaaQuietTail
import Derived.Deep.QuietTactic
import Derived.BigQuiet
namespace Go.Proofs.Ytngmcipmmeabmaa
open Go.RowKit
set_option linter.unusedSimpArgs false
set_option linter.unusedVariables false

/-- A signature's bytes. -/
def pSig (i : Int) (a b c : List UInt8) : List UInt8 := pBig (i % 4294967296).toNat 4 ++ pDigests a ++ pDigests b ++ pDigests c
theorem pDigests_length (l : List UInt8) : (pDigests l).length = 4 + l.length := by rw [pDigests, List.length_append, pBig_length]
set_option maxHeartbeats 2000000 in
set_option maxRecDepth 100000 in
theorem wsig_calls (i : Int) (v1 v2 v3 : Value) (l1 l2 l3 : List UInt8) (h1 : l1.length ≤ 137438953471) (h2 : l2.length ≤ 137438953471) (h3 : l3.length ≤ 137438953471) (w : World) (d1 : Digs w v1 l1) (d2 : Digs w v2 l2) (d3 : Digs w v3 l3) :
    Calls Try.prog 19 #[.agg #[.int .i64 i, v1, v2, v3]] w fun e w' => e = .returned (.string (str (pSig i l1 l2 l3))) ∧ Below w.heap.size w w' := by
  unfold pSig
  have hb0 := (Below.refl w.heap.size w).alloc (Nat.le_refl _) (.cells #[.int .i64 i, v1, v2, v3] 27)
  have q0 := al1 w (.cells #[.int .i64 i, v1, v2, v3] 27)
  have e1 := d1.below hb0
  have e2 := d2.below hb0
  have e3 := d3.below hb0
  have L1 := pDigests_length l1
  have L2 := pDigests_length l2
  have L3 := pDigests_length l3
  have hmod : (i % 4294967296).toNat < 4294967296 := by omega
  have hmi : ((i % 4294967296).toNat : Int) = i % 4294967296 := by omega
  have wwc := fun w => wword_calls (i % 4294967296).toNat hmod w
  rw [hmi] at wwc
  have L0 := pBig_length (i % 4294967296).toNat 4
  generalize hP0 : pBig (i % 4294967296).toNat 4 = P0 at *
  have h1c : ∀ w', Below w.heap.size w w' → Calls Try.prog 17 #[v1] w' fun e w'' => e = .returned (.string (str (pDigests l1))) ∧ Below w'.heap.size w' w'' := fun w' hb => wdigests_calls v1 l1 h1 w' (d1.below hb)
  have h2c : ∀ w', Below w.heap.size w w' → Calls Try.prog 17 #[v2] w' fun e w'' => e = .returned (.string (str (pDigests l2))) ∧ Below w'.heap.size w' w'' := fun w' hb => wdigests_calls v2 l2 h2 w' (d2.below hb)
  have h3c : ∀ w', Below w.heap.size w w' → Calls Try.prog 17 #[v3] w' fun e w'' => e = .returned (.string (str (pDigests l3))) ∧ Below w'.heap.size w' w'' := fun w' hb => wdigests_calls v3 l3 h3 w' (d3.below hb)
  generalize pDigests l1 = P1 at *
  generalize pDigests l2 = P2 at *
  generalize pDigests l3 = P3 at *
  have a1 := append_str P0 P1
  have a2 : str (P0 ++ P1) ++ str P2 = str (P0 ++ (P1 ++ P2)) := by rw [append_str, List.append_assoc]
  have a3 : str (P0 ++ (P1 ++ P2)) ++ str P3 = str (P0 ++ (P1 ++ (P2 ++ P3))) := by rw [append_str]; simp
  have n1 : ¬ 9223372036854775807 < P0.length + P1.length := by omega
  have n2 : ¬ 9223372036854775807 < P0.length + P1.length + P2.length := by omega
  have n3 : ¬ 9223372036854775807 < P0.length + P1.length + P2.length + P3.length := by omega
  have n3' : ¬ 9223372036854775807 < P0.length + (P1.length + P2.length) + P3.length := by omega
  generalize hX : w.alloc (.cells #[.int .i64 i, v1, v2, v3] 27) = X at *
  have hrg : ∀ d os, Below w.heap.size w (Sort.grow (redrawn X d) os) := fun d os => hb0.trans ((below_regrown X d os).mono hb0.size)
  have hzX : w.heap.size < X.heap.size := (Array.getElem?_eq_some_iff.1 q0).1
  have cg : ∀ j v, (#[Value.int .i64 i, v1, v2, v3] : Array Value)[j]? = some v → ∀ d os, (Sort.grow (redrawn X d) os).cell? ⟨w.heap.size, j, none⟩ = some v := fun j v hv d os => by
    rw [(below_regrown X d os).cell (p := ⟨w.heap.size, j, none⟩) hzX]; exact (sig_cell q0).1 j v hv
  have c0 : ∀ d os, (Sort.grow (redrawn X d) os).cell? ⟨w.heap.size, 0, none⟩ = some (.int .i64 i) := cg 0 _ rfl
  have c1 : ∀ d os, (Sort.grow (redrawn X d) os).cell? ⟨w.heap.size, 1, none⟩ = some v1 := cg 1 _ rfl
  have c2 : ∀ d os, (Sort.grow (redrawn X d) os).cell? ⟨w.heap.size, 2, none⟩ = some v2 := cg 2 _ rfl
  have c3 : ∀ d os, (Sort.grow (redrawn X d) os).cell? ⟨w.heap.size, 3, none⟩ = some v3 := cg 3 _ rfl
  have k0 : Hid (∀ d os, Calls Try.prog 11 #[.int .u32 (i % 4294967296)] (Sort.grow (redrawn X d) os) fun e w'' => e = .returned (.string (str P0)) ∧ ∃ p : Regrown, w'' = Sort.grow (redrawn X p.d) p.os) := fun d os => Calls.regrown_of (wwc _)
  have k1 : Hid (∀ d os, Calls Try.prog 17 #[v1] (Sort.grow (redrawn X d) os) fun e w'' => e = .returned (.string (str P1)) ∧ ∃ p : Regrown, w'' = Sort.grow (redrawn X p.d) p.os) := fun d os => Calls.regrown_of (h1c _ (hrg d os))
  have k2 : Hid (∀ d os, Calls Try.prog 17 #[v2] (Sort.grow (redrawn X d) os) fun e w'' => e = .returned (.string (str P2)) ∧ ∃ p : Regrown, w'' = Sort.grow (redrawn X p.d) p.os) := fun d os => Calls.regrown_of (h2c _ (hrg d os))
  have k3 : Hid (∀ d os, Calls Try.prog 17 #[v3] (Sort.grow (redrawn X d) os) fun e w'' => e = .returned (.string (str P3)) ∧ ∃ p : Regrown, w'' = Sort.grow (redrawn X p.d) p.os) := fun d os => Calls.regrown_of (h3c _ (hrg d os))
  have HX := hide hX
  clear cg hX wwc h1c h2c h3c hrg e1 e2 e3 d1 d2 d3 L0 L1 L2 L3 hmi hmod hP0 h1 h2 h3 q0
  go_enter Try.func19, Try.ntmps19
  go_wp2_with fail
  rw [unhide HX]
  refine wp_region_below mixed (by kernel_rfl) ?_
  quiet_step (fail)
  quiet_step (fail)
  quiet_step (fail)
  quiet_step (exact unhide k0 _ _)
  quiet_step (fail)
  quiet_step (fail)
  quiet_step (exact unhide k1 _ _)
  quiet_step (fail)
  quiet_step (fail)
  quiet_step (fail)
  quiet_step (exact unhide k2 _ _)
  quiet_step (fail)
  quiet_step (fail)
  quiet_step (fail)
  quiet_step (exact unhide k3 _ _)
  repeat (quiet_step (fail))
  refine wpQuiet_nil ?_
  intro w3 hb3
  go_wp2
  go_ret
  exact ⟨by simp only [List.append_assoc]; rfl, hb0.trans (hb3.mono hb0.size)⟩
end Go.Proofs.Ytngmcipmmeabmaa
