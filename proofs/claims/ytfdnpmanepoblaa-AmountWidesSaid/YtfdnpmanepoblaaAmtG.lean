/-
  == AND != OF THE DOCUMENT'S WIDE NUMBERS WITH THEMSELVES; != as a step of the quiet walk.
-/
import Derived.Test.YtfdnpmanepoblaaAmtF
import Derived.Test.YtfdnpmanepoblaaKitEq
namespace Go.Proofs.Ytfdnpmanepoblaa
open Go Go.RowKit
set_option linter.unusedSimpArgs false
set_option linter.unusedVariables false

theorem wpQuiet_neq {P : Program} {ops : Array Oper} {C : World → Prop} {Q : Act → Prop} {a : Act} {o : Oper} {rest : List Oper} (hw : Region.wanted o (yielded ops a.tmps) = true) (t t' : TypeId) (x y : Operand) (ho : o.op = .binOp .neq t x y t')
    (u v : Array Value) (hx : a.eval x = .agg u) (hy : a.eval y = .agg v) (hgt : P.eqGuardType P.depth t = false) (b : Bool) (he : ∀ w, (binOp .neq t (.agg u) (.agg v)).run P w = .ok (.bool b) w)
    (h : wpQuiet P ops C Q rest (a.put o.dst (.bool b))) : wpQuiet P ops C Q (o :: rest) a := by
  show if _ then _ else _
  rw [if_pos hw]
  refine ⟨.bool b, fun w hC => ?_, h⟩
  have hg : (eqGuard .neq t x y (.agg u) (.agg v)).run P w = .ok () w := run_eqGuard_agg w .neq t x y u v hgt
  unfold Oper.quietAt execOp
  simp only [ho, hx, hy, Sem.run_bind, hg, Result.andThen_ok, he]
  exact ⟨rfl, rfl⟩
theorem zero_neq (w : World) : (binOp .neq 25 (.agg (wv 0)) (.agg #[.int .u64 0, .int .u64 0])).run Try.prog w = .ok (.bool false) w := by
  show (binOp .neq 25 (.agg #[.int .u64 0, .int .u64 0]) (.agg #[.int .u64 0, .int .u64 0])).run Try.prog w = _
  go_simp
theorem r4_equal (a b c d : Nat) (ha : a < 4294967296) (hb : b < 4294967296) (hc : c < 4294967296) (hd : d < 4294967296) (w : World) : (Op.equalIn 10000 31 (.agg (r4 a b c d)) (.agg (r4 a b c d))).run Try.prog w = .ok true w := by
  obtain ⟨la, hla⟩ := keyLits_ints (P := Try.prog) 31 23 4 .u64 Try.underlying31 Try.underlying23 (by kernel_rfl) (by kernel_rfl) [(a : Int), (b : Int), (c : Int), (d : Int)] rfl (fun z hz => by
    simp at hz
    rcases hz with rfl | rfl | rfl | rfl <;> (simp [Lit.wf, IntKind.min, IntKind.max, IntKind.signed, IntKind.bits]; omega))
  exact equalIn_refl 31 2 2 (by omega) (by kernel_rfl) _ (by simp only [Value.formed, Try.underlying31, r4]; kernel_rfl) la hla w
theorem rv_eql (n : Nat) (hn : n < wmax) (w : World) : (binOp .eql 31 (.agg (rv n)) (.agg (rv n))).run Try.prog w = .ok (.bool true) w := by
  obtain ⟨a, b, c, d, e, ha, hb, hc, hd, _⟩ := rv_digits n hn
  have := r4_equal a b c d ha hb hc hd w
  rw [e, run_eql_struct, this]; rfl
end Go.Proofs.Ytfdnpmanepoblaa
