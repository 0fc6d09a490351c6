/-
  The law KeysBinds holds: for every seed, every digest and every signature the call returns true, and they read behind it as before. Conditions: those that the row itself prints (the two tables of package sha as the program's text lays them; the card ties them to it).
-/
import Derived.Test.YtonmccmeljeopaaDoorJ9
import Derived.Test.YtonmccmeljeopaaDoorJ10
import Derived.Test.YtonmccmeljeopaaDoorRows
import Derived.Test.YtonmccmeljeopaaDoorChecked
import Derived.Test.YtonmccmeljeopaaDoorCards
import Derived.Test.YtonmccmeljeopaaDoorTie
import Derived.ProofKit
import Derived.OpenShut
import Derived.Deep.DeepHandedRow
import Derived.Lib.LaidTab
import Derived.ChangeMaps5
namespace Go.Proofs.YtonmccmeljeopaaDoor.keysBindsDone
open Go.ChangeShapes Go.WideShapes Go.ChangeAt Go.RowKit
set_option linter.unusedVariables false

theorem own : ownKnob Tryd.prog.godebug = none := by kernel_rfl
theorem laidOut : laidOutB Tryd.prog = true := by kernel_rfl
set_option maxRecDepth 100000 in
theorem contract (H : Type) (enc : TypeId × Value → H) (W : World) (base : Nat) (args : Array Value) (ds gs : List (DataW H)) (before : List MemPlace)
    (hval : ∀ (j : Nat) t v, Tryd.f3.params[j]? = some t → args[j]? = some v → Value.okWide Tryd.prog W .any base t v)
    (hW : DataW.Whole enc Tryd.prog Tryd.f3.params.toList Rows.keysBindsSpec.vars false W args.toList ds gs before) (hL : laidMetH Tryd.prog Rows.keysBindsRow.laid W) :
    Calls Tryd.prog 3 args W fun e W' => ∃ v, e = .returned v ∧ Rows.keysBindsSpec.post enc Tryd.prog Tryd.f3 false true false false W args v W' := by
  have hW' := hW
  obtain ⟨p, q, hA0, hV, rfl, hfz, hnd⟩ := hW
  have hA : DataW.TrodAll enc Tryd.prog W 0 (fun _ => true) true Tryd.f3.params.toList args.toList ds p := hA0
  rw [Tryd.params3] at hA hval
  obtain ⟨v0, vs0, d0, ds0, p0, q0, hargs0, rfl, rfl, h0, r0⟩ := trodAll_cons hA
  obtain ⟨v1, vs1, d1, ds1, p1, q1, hargs1, rfl, rfl, h1, r1⟩ := trodAll_cons r0
  obtain ⟨v2, vs2, d2, ds2, p2, q2, hargs2, rfl, rfl, h2, r2⟩ := trodAll_cons r1
  obtain ⟨rfl, rfl, rfl⟩ := trodAll_nil r2
  obtain rfl : args = #[v0, v1, v2] := by cases args; simp_all
  obtain ⟨rfl, rfl⟩ := trodVars_none hV
  have k0 := h0
  have lt0 : ∀ x ∈ p0, x.block < W.heap.size := by obtain ⟨m, hm⟩ := k0; exact DataW.trod_lt m _ _ _ hm
  have k1 := h1
  have lt1 : ∀ x ∈ p1, x.block < W.heap.size := by obtain ⟨m, hm⟩ := k1; exact DataW.trod_lt m _ _ _ hm
  have k2 := h2
  have lt2 : ∀ x ∈ p2, x.block < W.heap.size := by obtain ⟨m, hm⟩ := k2; exact DataW.trod_lt m _ _ _ hm
  obtain ⟨xs0, rfl, hxs0⟩ := WideMaps.okWide_arr arrD (hval 0 23 v0 rfl rfl)
  obtain ⟨s, rfl, hs⟩ := open_digest hxs0 h0
  obtain ⟨xs1, rfl, hxs1⟩ := WideMaps.okWide_arr arrD (hval 1 23 v1 rfl rfl)
  obtain ⟨d, rfl, hd⟩ := open_digest hxs1 h1
  obtain ⟨cs2, rfl, hcs2⟩ := okWide_struct Tryd.underlying26 (hval 2 26 v2 rfl rfl)
  obtain ⟨i, p1, n1, c1, l1, p2, n2, c2, l2, p3, n3, c3, l3, rfl, _, D1, D2, D3, m1, m2, m3⟩ := open_sig (hcs2.trans (by kernel_rfl)) h2
  clear hA0
  have tb : Tabs W := tabs_of hL
  refine (keysBinds_walk s d hs hd i p1 p2 p3 n1 n2 n3 c1 c2 c3 l1 l2 l3 W tb D1 D2 D3).mono fun e W' ⟨he, bel⟩ => ?_
  subst he
  exact ⟨_, rfl, _, _, _, [], _, [], hW', trodAll_mk1 (shut_bool Tryd.underlying4 _), (trodAll_cons_mk (Below.trod laidOut (by kernel_rfl) (of_decide_eq_true (by kernel_rfl)) k0 bel lt0) (trodAll_cons_mk (Below.trod laidOut (by kernel_rfl) (of_decide_eq_true (by kernel_rfl)) k1 bel lt1) (trodAll_cons_mk (Below.trod laidOut (by kernel_rfl) (of_decide_eq_true (by kernel_rfl)) k2 bel lt2) trodAll_mk0))), rfl, bel.frame _, fun h => by cases h⟩
theorem reads (os : Os) {H : Type} (enc : TypeId × Value → H) : ∃ places, DataW.whole enc Tryd.prog ((shaWorld os).forCall (fun _ _ => 0) ⟨#[], #[.agg (bc (List.replicate 32 0)), .agg (bc (List.replicate 32 0)), .agg #[.int .i64 0, .slice none 0 0, .slice none 0 0, .slice none 0 0]], []⟩).memory Tryd.f3.params.toList Rows.keysBindsSpec.vars false (#[.agg (bc (List.replicate 32 0)), .agg (bc (List.replicate 32 0)), .agg #[.int .i64 0, .slice none 0 0, .slice none 0 0, .slice none 0 0]] : Array Value).toList 8 = some ([.agg (List.replicate 32 (.lit (.int .u8 0))), .agg (List.replicate 32 (.lit (.int .u8 0))), .agg [.lit (.int .i64 0), .nil, .nil, .nil]], [], places) :=
  ⟨[], by kernel_rfl⟩
theorem laid_met (os : Os) : laidMet Tryd.prog Rows.keysBindsRow.laid ((shaWorld os).forCall (fun _ _ => 0) ⟨#[], #[.agg (bc (List.replicate 32 0)), .agg (bc (List.replicate 32 0)), .agg #[.int .i64 0, .slice none 0 0, .slice none 0 0, .slice none 0 0]], []⟩).memory :=
  laidMet_of_run' 8 (by kernel_rfl) (by kernel_rfl)
set_option maxRecDepth 100000 in
theorem lifted (os : Os) (started : os.Started) (H : Type) (enc : TypeId × Value → H) (F : Stop.Interp) :
    ReturnsInHanded {} Tryd.checked os 3 .any ((OpenSpec.ofChange Rows.keysBindsSpec).preRow enc Tryd.prog Tryd.f3 Rows.keysBindsRow.domain false Rows.keysBindsRow.laid) (((OpenSpec.ofChange Rows.keysBindsSpec).at F).post enc Tryd.prog Tryd.f3 false true false false) := by
  obtain ⟨places, hx⟩ := reads os enc
  refine returnsInHanded_of_row (C := Tryd.checked) (s := OpenSpec.ofChange Rows.keysBindsSpec) own started (by kernel_rfl) Tryd.func3
    (witness_row_at (enc := enc) (C := Tryd.checked) false (shaWorld os) #[.agg (bc (List.replicate 32 0)), .agg (bc (List.replicate 32 0)), .agg #[.int .i64 0, .slice none 0 0, .slice none 0 0, .slice none 0 0]] rfl (by kernel_rfl) (by kernel_rfl) (by kernel_rfl)
      (OpenSpec.preRow_of_cond 8 hx (by kernel_rfl) (fun k hk => by cases hk) (by kernel_rfl) (laid_met os))) ?_
  intro W base args ds gs before hval hW _ _ _ hL _ _
  exact contract H enc W base args ds gs before hval hW hL
theorem said : Rows.KeysBindsSaid :=
  OpenClaim.holds_of_cond 3 Tryd.f3 rfl rfl rfl rfl rfl rfl rfl ⟨rfl, rfl, rfl, rfl, rfl⟩ rfl rfl rfl rfl rfl (by kernel_rfl) Tryd.func3 (by kernel_rfl)
    (of_decide_eq_true (by kernel_rfl)) (by unfold Func.isWrapper; first | (rw [if_pos (by decide +kernel)]; kernel_rfl) | (rw [if_neg (by decide +kernel)]; exact ⟨rfl, rfl⟩))
    (fun os started H enc _ F => by rw [OpenClaim.pre_eq_preRow]; exact lifted os started H enc F)
theorem plain (f : FuncId) (fn : Func) (hf : Tryd.pinned.checked.prog.funcNamed "pontoon/pontoonlaw06.KeysBinds" = some f) (hfn : Tryd.pinned.checked.prog.funcs[f]? = some fn) :
    false = Tryd.pinned.checked.prog.looks [] ∧ ∀ (j : Nat) t, fn.params[j]? = some t → Tryd.pinned.checked.prog.wantsStandIn t = false := by
  obtain rfl : f = 3 := Option.some.inj ((show Tryd.prog.funcNamed "pontoon/pontoonlaw06.KeysBinds" = some 3 by kernel_rfl).symm.trans hf) |>.symm
  obtain rfl : fn = Tryd.f3 := (Option.some.inj (Tryd.func3.symm.trans hfn)).symm
  refine ⟨by kernel_rfl, fun j t ht => ?_⟩
  rw [Tryd.params3] at ht
  have ht' : t = 23 ∨ t = 26 := by first | (simpa using Array.mem_of_getElem? ht) | (have h := Array.mem_of_getElem? ht; simp at h; rcases h with h | h | h <;> simp [h]) | (have h := Array.mem_of_getElem? ht; simp at h; rcases h with h | h | h | h | h | h | h <;> simp [h]) | (have h := Array.mem_of_getElem? ht; simp at h; rcases h with h | h | h | h | h | h <;> simp [h]) | (have h := Array.mem_of_getElem? ht; simp at h; rcases h with h | h | h | h | h <;> simp [h]) | (have h := Array.mem_of_getElem? ht; simp at h; rcases h with h | h | h | h <;> simp [h])
  rcases ht' with rfl | rfl
  · exact (show Tryd.prog.wantsStandIn 23 = false by kernel_rfl)
  · exact (show Tryd.prog.wantsStandIn 26 = false by kernel_rfl)
end Go.Proofs.YtonmccmeljeopaaDoor.keysBindsDone
namespace Go.Proofs.YtonmccmeljeopaaDoor
theorem keysBinds_holds : Rows.KeysBindsCardSaid :=
  Claim7.holds_tied_plain_at .later [] _ _ _ _ keysBindsDone.said (fun _ h => by cases h) (by kernel_rfl) (fun _ h => by cases h) keysBinds_row_tie rfl ⟨rfl, rfl⟩ (by kernel_rfl) rfl keysBindsDone.plain (by kernel_rfl)
#print axioms keysBinds_holds
end Go.Proofs.YtonmccmeljeopaaDoor
