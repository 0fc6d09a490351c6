/-
  The law UpdateBinds holds: for every seed, two homes and four digests the call returns true, and they read behind it as before. Conditions: those that the row itself prints (the two tables of package sha as the program's text lays them; the card ties them to it).
-/
import Derived.Test.YtdkaphebdkdfhaaDoorJ11
import Derived.Test.YtdkaphebdkdfhaaDoorJ12
import Derived.Test.YtdkaphebdkdfhaaDoorRows
import Derived.Test.YtdkaphebdkdfhaaDoorChecked
import Derived.Test.YtdkaphebdkdfhaaDoorCards
import Derived.Test.YtdkaphebdkdfhaaDoorTie
import Derived.ProofKit
import Derived.OpenShut
import Derived.Deep.DeepHandedRow
import Derived.Lib.LaidTab
import Derived.ChangeMaps5
namespace Go.Proofs.YtdkaphebdkdfhaaDoor.updateBindsDone
open Go.ChangeShapes Go.WideShapes Go.ChangeAt Go.RowKit
set_option linter.unusedVariables false

theorem own : ownKnob Tryd.prog.godebug = none := by kernel_rfl
theorem laidOut : laidOutB Tryd.prog = true := by kernel_rfl
set_option maxRecDepth 100000 in
theorem contract (H : Type) (enc : TypeId × Value → H) (W : World) (base : Nat) (args : Array Value) (ds gs : List (DataW H)) (before : List MemPlace)
    (hval : ∀ (j : Nat) t v, Tryd.f4.params[j]? = some t → args[j]? = some v → Value.okWide Tryd.prog W .any base t v)
    (hW : DataW.Whole enc Tryd.prog Tryd.f4.params.toList Rows.updateBindsSpec.vars false W args.toList ds gs before) (hL : laidMetH Tryd.prog Rows.updateBindsRow.laid W) :
    Calls Tryd.prog 4 args W fun e W' => ∃ v, e = .returned v ∧ Rows.updateBindsSpec.post enc Tryd.prog Tryd.f4 false true false false W args v W' := by
  have hW' := hW
  obtain ⟨p, q, hA0, hV, rfl, hfz, hnd⟩ := hW
  have hA : DataW.TrodAll enc Tryd.prog W 0 (fun _ => true) true Tryd.f4.params.toList args.toList ds p := hA0
  rw [Tryd.params4] at hA hval
  obtain ⟨v0, vs0, d0, ds0, p0, q0, hargs0, rfl, rfl, h0, r0⟩ := trodAll_cons hA
  obtain ⟨v1, vs1, d1, ds1, p1, q1, hargs1, rfl, rfl, h1, r1⟩ := trodAll_cons r0
  obtain ⟨v2, vs2, d2, ds2, p2, q2, hargs2, rfl, rfl, h2, r2⟩ := trodAll_cons r1
  obtain ⟨v3, vs3, d3, ds3, p3, q3, hargs3, rfl, rfl, h3, r3⟩ := trodAll_cons r2
  obtain ⟨v4, vs4, d4, ds4, p4, q4, hargs4, rfl, rfl, h4, r4⟩ := trodAll_cons r3
  obtain ⟨v5, vs5, d5, ds5, p5, q5, hargs5, rfl, rfl, h5, r5⟩ := trodAll_cons r4
  obtain ⟨v6, vs6, d6, ds6, p6, q6, hargs6, rfl, rfl, h6, r6⟩ := trodAll_cons r5
  obtain ⟨rfl, rfl, rfl⟩ := trodAll_nil r6
  obtain rfl : args = #[v0, v1, v2, v3, v4, v5, v6] := by cases args; simp_all
  obtain ⟨rfl, rfl⟩ := trodVars_none hV
  have k0 := h0
  have lt0 : ∀ x ∈ p0, x.block < W.heap.size := by obtain ⟨m, hm⟩ := k0; exact DataW.trod_lt m _ _ _ hm
  have k1 := h1
  have lt1 : ∀ x ∈ p1, x.block < W.heap.size := by obtain ⟨m, hm⟩ := k1; exact DataW.trod_lt m _ _ _ hm
  have k2 := h2
  have lt2 : ∀ x ∈ p2, x.block < W.heap.size := by obtain ⟨m, hm⟩ := k2; exact DataW.trod_lt m _ _ _ hm
  have k3 := h3
  have lt3 : ∀ x ∈ p3, x.block < W.heap.size := by obtain ⟨m, hm⟩ := k3; exact DataW.trod_lt m _ _ _ hm
  have k4 := h4
  have lt4 : ∀ x ∈ p4, x.block < W.heap.size := by obtain ⟨m, hm⟩ := k4; exact DataW.trod_lt m _ _ _ hm
  have k5 := h5
  have lt5 : ∀ x ∈ p5, x.block < W.heap.size := by obtain ⟨m, hm⟩ := k5; exact DataW.trod_lt m _ _ _ hm
  have k6 := h6
  have lt6 : ∀ x ∈ p6, x.block < W.heap.size := by obtain ⟨m, hm⟩ := k6; exact DataW.trod_lt m _ _ _ hm
  obtain ⟨xs0, rfl, hxs0⟩ := WideMaps.okWide_arr arrD (hval 0 23 v0 rfl rfl)
  obtain ⟨s, rfl, hs'⟩ := open_digest hxs0 h0
  obtain ⟨n1, rfl, _, _, hw1⟩ := open_int Tryd.underlying43 (hval 1 43 v1 rfl rfl) h1
  obtain ⟨home, rfl, hhome'⟩ : ∃ n : Nat, n1 = (n : Int) ∧ n < 4294967296 := by
    simp [Lit.wf, IntKind.min, IntKind.max, IntKind.signed, IntKind.bits] at hw1
    exact ⟨n1.toNat, by omega, by omega⟩
  obtain ⟨n2, rfl, _, _, hw2⟩ := open_int Tryd.underlying43 (hval 2 43 v2 rfl rfl) h2
  obtain ⟨home2, rfl, hhome2'⟩ : ∃ n : Nat, n2 = (n : Int) ∧ n < 4294967296 := by
    simp [Lit.wf, IntKind.min, IntKind.max, IntKind.signed, IntKind.bits] at hw2
    exact ⟨n2.toNat, by omega, by omega⟩
  obtain ⟨xs3, rfl, hxs3⟩ := WideMaps.okWide_arr arrD (hval 3 23 v3 rfl rfl)
  obtain ⟨a, rfl, ha'⟩ := open_digest hxs3 h3
  obtain ⟨xs4, rfl, hxs4⟩ := WideMaps.okWide_arr arrD (hval 4 23 v4 rfl rfl)
  obtain ⟨b, rfl, hb'⟩ := open_digest hxs4 h4
  obtain ⟨xs5, rfl, hxs5⟩ := WideMaps.okWide_arr arrD (hval 5 23 v5 rfl rfl)
  obtain ⟨c, rfl, hc'⟩ := open_digest hxs5 h5
  obtain ⟨xs6, rfl, hxs6⟩ := WideMaps.okWide_arr arrD (hval 6 23 v6 rfl rfl)
  obtain ⟨d, rfl, hd'⟩ := open_digest hxs6 h6
  clear hA0
  have tb : Tabs W := tabs_of hL
  refine (updateBinds_walk s hs' home home2 hhome' hhome2' a b c d ha' hb' hc' hd' W tb).mono fun e W' ⟨he, bel⟩ => ?_
  subst he
  exact ⟨_, rfl, _, _, _, [], _, [], hW', trodAll_mk1 (shut_bool Tryd.underlying4 _), (trodAll_cons_mk (Below.trod laidOut (by kernel_rfl) (of_decide_eq_true (by kernel_rfl)) k0 bel lt0) (trodAll_cons_mk (Below.trod laidOut (by kernel_rfl) (of_decide_eq_true (by kernel_rfl)) k1 bel lt1) (trodAll_cons_mk (Below.trod laidOut (by kernel_rfl) (of_decide_eq_true (by kernel_rfl)) k2 bel lt2) (trodAll_cons_mk (Below.trod laidOut (by kernel_rfl) (of_decide_eq_true (by kernel_rfl)) k3 bel lt3) (trodAll_cons_mk (Below.trod laidOut (by kernel_rfl) (of_decide_eq_true (by kernel_rfl)) k4 bel lt4) (trodAll_cons_mk (Below.trod laidOut (by kernel_rfl) (of_decide_eq_true (by kernel_rfl)) k5 bel lt5) (trodAll_cons_mk (Below.trod laidOut (by kernel_rfl) (of_decide_eq_true (by kernel_rfl)) k6 bel lt6) trodAll_mk0))))))), rfl, bel.frame _, fun h => by cases h⟩
theorem reads (os : Os) {H : Type} (enc : TypeId × Value → H) : ∃ places, DataW.whole enc Tryd.prog ((shaWorld os).forCall (fun _ _ => 0) ⟨#[], #[.agg (bc (List.replicate 32 0)), .int .u32 0, .int .u32 0, .agg (bc (List.replicate 32 0)), .agg (bc (List.replicate 32 0)), .agg (bc (List.replicate 32 0)), .agg (bc (List.replicate 32 0))], []⟩).memory Tryd.f4.params.toList Rows.updateBindsSpec.vars false (#[.agg (bc (List.replicate 32 0)), .int .u32 0, .int .u32 0, .agg (bc (List.replicate 32 0)), .agg (bc (List.replicate 32 0)), .agg (bc (List.replicate 32 0)), .agg (bc (List.replicate 32 0))] : Array Value).toList 8 = some ([.agg (List.replicate 32 (.lit (.int .u8 0))), .lit (.int .u32 0), .lit (.int .u32 0), .agg (List.replicate 32 (.lit (.int .u8 0))), .agg (List.replicate 32 (.lit (.int .u8 0))), .agg (List.replicate 32 (.lit (.int .u8 0))), .agg (List.replicate 32 (.lit (.int .u8 0)))], [], places) :=
  ⟨[], by kernel_rfl⟩
theorem laid_met (os : Os) : laidMet Tryd.prog Rows.updateBindsRow.laid ((shaWorld os).forCall (fun _ _ => 0) ⟨#[], #[.agg (bc (List.replicate 32 0)), .int .u32 0, .int .u32 0, .agg (bc (List.replicate 32 0)), .agg (bc (List.replicate 32 0)), .agg (bc (List.replicate 32 0)), .agg (bc (List.replicate 32 0))], []⟩).memory :=
  laidMet_of_run' 8 (by kernel_rfl) (by kernel_rfl)
set_option maxRecDepth 100000 in
theorem lifted (os : Os) (started : os.Started) (H : Type) (enc : TypeId × Value → H) (F : Stop.Interp) :
    ReturnsInHanded {} Tryd.checked os 4 .any ((OpenSpec.ofChange Rows.updateBindsSpec).preRow enc Tryd.prog Tryd.f4 Rows.updateBindsRow.domain false Rows.updateBindsRow.laid) (((OpenSpec.ofChange Rows.updateBindsSpec).at F).post enc Tryd.prog Tryd.f4 false true false false) := by
  obtain ⟨places, hx⟩ := reads os enc
  refine returnsInHanded_of_row (C := Tryd.checked) (s := OpenSpec.ofChange Rows.updateBindsSpec) own started (by kernel_rfl) Tryd.func4
    (witness_row_at (enc := enc) (C := Tryd.checked) false (shaWorld os) #[.agg (bc (List.replicate 32 0)), .int .u32 0, .int .u32 0, .agg (bc (List.replicate 32 0)), .agg (bc (List.replicate 32 0)), .agg (bc (List.replicate 32 0)), .agg (bc (List.replicate 32 0))] rfl (by kernel_rfl) (by kernel_rfl) (by kernel_rfl)
      (OpenSpec.preRow_of_cond 8 hx (by kernel_rfl) (fun k hk => by cases hk) (by kernel_rfl) (laid_met os))) ?_
  intro W base args ds gs before hval hW _ _ _ hL _ _
  exact contract H enc W base args ds gs before hval hW hL
theorem said : Rows.UpdateBindsSaid :=
  OpenClaim.holds_of_cond 4 Tryd.f4 rfl rfl rfl rfl rfl rfl rfl ⟨rfl, rfl, rfl, rfl, rfl⟩ rfl rfl rfl rfl rfl (by kernel_rfl) Tryd.func4 (by kernel_rfl)
    (of_decide_eq_true (by kernel_rfl)) (by unfold Func.isWrapper; first | (rw [if_pos (by decide +kernel)]; kernel_rfl) | (rw [if_neg (by decide +kernel)]; exact ⟨rfl, rfl⟩))
    (fun os started H enc _ F => by rw [OpenClaim.pre_eq_preRow]; exact lifted os started H enc F)
theorem plain (f : FuncId) (fn : Func) (hf : Tryd.pinned.checked.prog.funcNamed "pontoon/pontoonlaw10.UpdateBinds" = some f) (hfn : Tryd.pinned.checked.prog.funcs[f]? = some fn) :
    false = Tryd.pinned.checked.prog.looks [] ∧ ∀ (j : Nat) t, fn.params[j]? = some t → Tryd.pinned.checked.prog.wantsStandIn t = false := by
  obtain rfl : f = 4 := Option.some.inj ((show Tryd.prog.funcNamed "pontoon/pontoonlaw10.UpdateBinds" = some 4 by kernel_rfl).symm.trans hf) |>.symm
  obtain rfl : fn = Tryd.f4 := (Option.some.inj (Tryd.func4.symm.trans hfn)).symm
  refine ⟨by kernel_rfl, fun j t ht => ?_⟩
  rw [Tryd.params4] at ht
  have ht' : t = 23 ∨ t = 43 := by first | (simpa using Array.mem_of_getElem? ht) | (have h := Array.mem_of_getElem? ht; simp at h; rcases h with h | h | h <;> simp [h]) | (have h := Array.mem_of_getElem? ht; simp at h; rcases h with h | h | h | h | h | h | h <;> simp [h]) | (have h := Array.mem_of_getElem? ht; simp at h; rcases h with h | h | h | h | h | h <;> simp [h]) | (have h := Array.mem_of_getElem? ht; simp at h; rcases h with h | h | h | h | h <;> simp [h]) | (have h := Array.mem_of_getElem? ht; simp at h; rcases h with h | h | h | h <;> simp [h])
  rcases ht' with rfl | rfl
  · exact (show Tryd.prog.wantsStandIn 23 = false by kernel_rfl)
  · exact (show Tryd.prog.wantsStandIn 43 = false by kernel_rfl)
end Go.Proofs.YtdkaphebdkdfhaaDoor.updateBindsDone
namespace Go.Proofs.YtdkaphebdkdfhaaDoor
theorem updateBinds_holds : Rows.UpdateBindsCardSaid :=
  Claim7.holds_tied_plain_at .later [] _ _ _ _ updateBindsDone.said (fun _ h => by cases h) (by kernel_rfl) (fun _ h => by cases h) updateBinds_row_tie rfl ⟨rfl, rfl⟩ (by kernel_rfl) rfl updateBindsDone.plain (by kernel_rfl)
#print axioms updateBinds_holds
end Go.Proofs.YtdkaphebdkdfhaaDoor
