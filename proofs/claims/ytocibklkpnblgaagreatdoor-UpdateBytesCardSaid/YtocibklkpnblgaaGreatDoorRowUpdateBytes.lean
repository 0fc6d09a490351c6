/-
  The law UpdateBytes holds: for every update, stop and text the call returns true, and they read behind it as before. Conditions: those that the row itself prints (the two tables of package sha as the program's text lays them; the card ties them to it).
-/
import Derived.Test.YtocibklkpnblgaaGreatDoorJ9
import Derived.Test.YtocibklkpnblgaaGreatDoorRows
import Derived.Test.YtocibklkpnblgaaGreatDoorChecked
import Derived.Test.YtocibklkpnblgaaGreatDoorCards
import Derived.Test.YtocibklkpnblgaaGreatDoorTie
import Derived.ProofKit
import Derived.OpenShut
import Derived.Deep.DeepHandedRow
import Derived.Lib.LaidTab
import Derived.ChangeMaps5
namespace Go.Proofs.YtocibklkpnblgaaGreatDoor.updateBytesDone
open Go.ChangeShapes Go.WideShapes Go.ChangeAt Go.RowKit
set_option linter.unusedVariables false

theorem own : ownKnob Tryz.prog.godebug = none := by kernel_rfl
theorem laidOut : laidOutB Tryz.prog = true := by kernel_rfl
set_option maxRecDepth 100000 in
theorem contract (H : Type) (enc : TypeId × Value → H) (W : World) (base : Nat) (args : Array Value) (ds gs : List (DataW H)) (before : List MemPlace)
    (hval : ∀ (j : Nat) t v, Tryz.f3.params[j]? = some t → args[j]? = some v → Value.okWide Tryz.prog W .any base t v)
    (hW : DataW.Whole enc Tryz.prog Tryz.f3.params.toList Rows.updateBytesSpec.vars false W args.toList ds gs before) (hL : laidMetH Tryz.prog Rows.updateBytesRow.laid W) :
    Calls Tryz.prog 3 args W fun e W' => ∃ v, e = .returned v ∧ Rows.updateBytesSpec.post enc Tryz.prog Tryz.f3 false true false false W args v W' := by
  have hW' := hW
  obtain ⟨p, q, hA0, hV, rfl, hfz, hnd⟩ := hW
  have hA : DataW.TrodAll enc Tryz.prog W 0 (fun _ => true) true Tryz.f3.params.toList args.toList ds p := hA0
  rw [Tryz.params3] at hA hval
  obtain ⟨v0, vs0, d0, ds0, p0, q0, hargs0, rfl, rfl, h0, r0⟩ := trodAll_cons hA
  obtain ⟨v1, vs1, d1, ds1, p1, q1, hargs1, rfl, rfl, h1, r1⟩ := trodAll_cons r0
  obtain ⟨v2, vs2, d2, ds2, p2, q2, hargs2, rfl, rfl, h2, r2⟩ := trodAll_cons r1
  obtain ⟨rfl, rfl, rfl⟩ := trodAll_nil r2
  obtain rfl : args = #[v0, v1, v2] := by cases args; simp_all
  obtain ⟨rfl, rfl⟩ := trodVars_none hV
  have k0 := h0
  have lt0 : ∀ x ∈ p0, x.block < W.heap.size := by obtain ⟨m, hm⟩ := k0; exact DataW.trod_lt m _ _ _ hm
  have k1 := h1
  have lt1 : ∀ x ∈ p1, x.block < W.heap.size := by obtain ⟨m, hm⟩ := k1; exact DataW.trod_lt m _ _ _ hm
  have k2 := h2
  have lt2 : ∀ x ∈ p2, x.block < W.heap.size := by obtain ⟨m, hm⟩ := k2; exact DataW.trod_lt m _ _ _ hm
  obtain ⟨cs0, rfl, hcs0⟩ := okWide_struct Tryz.underlying29 (hval 0 29 v0 rfl rfl)
  obtain ⟨home, a, b, i, p1, n1, c1, l1, p2, n2, c2, l2, p3, n3, c3, l3, rfl, hh, ha, hb, hwi, D1, D2, D3, _, _, _⟩ := open_upd (hcs0.trans (by kernel_rfl)) h0
  obtain ⟨cs1, rfl, hcs1⟩ := okWide_struct Tryz.underlying31 (hval 1 31 v1 rfl rfl)
  obtain ⟨home2, d, y, j, q1, k1', e1, m1, q2, k2', e2, m2, q3, k3', e3, m3, rfl, hh2, hd, hwy, hwj, E1, E2, E3, _, _, _⟩ := open_stop (hcs1.trans (by kernel_rfl)) h1
  obtain ⟨s, rfl, _, _, hs⟩ := Go.ChangeMaps.open_string Tryz.underlying9 (hval 2 9 v2 rfl rfl) h2
  rw [← str_list s] at *
  generalize s.data.toList = l at *
  clear hA0
  have tb : Tabs W := tabs_of hL
  refine (updateBytes_walk home hh a b ha hb i p1 p2 p3 n1 n2 n3 c1 c2 c3 l1 l2 l3 home2 hh2 d hd y j q1 q2 q3 k1' k2' k3' e1 e2 e3 m1 m2 m3 l W D1 D2 D3 E1 E2 E3 tb).mono fun e W' ⟨he, bel⟩ => ?_
  subst he
  exact ⟨_, rfl, _, _, _, [], _, [], hW', trodAll_mk1 (shut_bool Tryz.underlying4 _), (trodAll_cons_mk (Below.trod laidOut (by kernel_rfl) (of_decide_eq_true (by kernel_rfl)) k0 bel lt0) (trodAll_cons_mk (Below.trod laidOut (by kernel_rfl) (of_decide_eq_true (by kernel_rfl)) k1 bel lt1) (trodAll_cons_mk (Below.trod laidOut (by kernel_rfl) (of_decide_eq_true (by kernel_rfl)) k2 bel lt2) trodAll_mk0))), rfl, bel.frame _, fun h => by cases h⟩
theorem reads (os : Os) {H : Type} (enc : TypeId × Value → H) : ∃ places, DataW.whole enc Tryz.prog ((shaWorld os).forCall (fun _ _ => 0) ⟨#[], #[.agg (updc 0 (List.replicate 32 0) (List.replicate 32 0) sig0), .agg (stopc 0 (List.replicate 32 0) 0 sig0), .string ⟨#[]⟩], []⟩).memory Tryz.f3.params.toList Rows.updateBytesSpec.vars false (#[.agg (updc 0 (List.replicate 32 0) (List.replicate 32 0) sig0), .agg (stopc 0 (List.replicate 32 0) 0 sig0), .string ⟨#[]⟩] : Array Value).toList 8 = some ([.agg [.lit (.int .u32 0), .agg (List.replicate 32 (.lit (.int .u8 0))), .agg (List.replicate 32 (.lit (.int .u8 0))), .agg [.lit (.int .i64 0), .nil, .nil, .nil]], .agg [.lit (.int .u32 0), .agg (List.replicate 32 (.lit (.int .u8 0))), .lit (.int .i64 0), .agg [.lit (.int .i64 0), .nil, .nil, .nil]], .lit (.string [])], [], places) :=
  ⟨[], by kernel_rfl⟩
theorem laid_met (os : Os) : laidMet Tryz.prog Rows.updateBytesRow.laid ((shaWorld os).forCall (fun _ _ => 0) ⟨#[], #[.agg (updc 0 (List.replicate 32 0) (List.replicate 32 0) sig0), .agg (stopc 0 (List.replicate 32 0) 0 sig0), .string ⟨#[]⟩], []⟩).memory :=
  laidMet_of_run' 8 (by kernel_rfl) (by kernel_rfl)
set_option maxRecDepth 100000 in
theorem lifted (os : Os) (started : os.Started) (H : Type) (enc : TypeId × Value → H) (F : Stop.Interp) :
    ReturnsInHanded {} Tryz.checked os 3 .any ((OpenSpec.ofChange Rows.updateBytesSpec).preRow enc Tryz.prog Tryz.f3 Rows.updateBytesRow.domain false Rows.updateBytesRow.laid) (((OpenSpec.ofChange Rows.updateBytesSpec).at F).post enc Tryz.prog Tryz.f3 false true false false) := by
  obtain ⟨places, hx⟩ := reads os enc
  refine returnsInHanded_of_row (C := Tryz.checked) (s := OpenSpec.ofChange Rows.updateBytesSpec) own started (by kernel_rfl) Tryz.func3
    (witness_row_at (enc := enc) (C := Tryz.checked) false (shaWorld os) #[.agg (updc 0 (List.replicate 32 0) (List.replicate 32 0) sig0), .agg (stopc 0 (List.replicate 32 0) 0 sig0), .string ⟨#[]⟩] rfl (by kernel_rfl) (by kernel_rfl) (by kernel_rfl)
      (OpenSpec.preRow_of_cond 8 hx (by kernel_rfl) (fun k hk => by cases hk) (by kernel_rfl) (laid_met os))) ?_
  intro W base args ds gs before hval hW _ _ _ hL _ _
  exact contract H enc W base args ds gs before hval hW hL
theorem said : Rows.UpdateBytesSaid :=
  OpenClaim.holds_of_cond 3 Tryz.f3 rfl rfl rfl rfl rfl rfl rfl ⟨rfl, rfl, rfl, rfl, rfl⟩ rfl rfl rfl rfl rfl (by kernel_rfl) Tryz.func3 (by kernel_rfl)
    (of_decide_eq_true (by kernel_rfl)) (by unfold Func.isWrapper; first | (rw [if_pos (by decide +kernel)]; kernel_rfl) | (rw [if_neg (by decide +kernel)]; exact ⟨rfl, rfl⟩))
    (fun os started H enc _ F => by rw [OpenClaim.pre_eq_preRow]; exact lifted os started H enc F)
theorem plain (f : FuncId) (fn : Func) (hf : Tryz.pinned.checked.prog.funcNamed "pontoon/pontoonlaw10.UpdateBytes" = some f) (hfn : Tryz.pinned.checked.prog.funcs[f]? = some fn) :
    false = Tryz.pinned.checked.prog.looks [] ∧ ∀ (j : Nat) t, fn.params[j]? = some t → Tryz.pinned.checked.prog.wantsStandIn t = false := by
  obtain rfl : f = 3 := Option.some.inj ((show Tryz.prog.funcNamed "pontoon/pontoonlaw10.UpdateBytes" = some 3 by kernel_rfl).symm.trans hf) |>.symm
  obtain rfl : fn = Tryz.f3 := (Option.some.inj (Tryz.func3.symm.trans hfn)).symm
  refine ⟨by kernel_rfl, fun j t ht => ?_⟩
  rw [Tryz.params3] at ht
  have ht' : t = 29 ∨ t = 31 ∨ t = 9 := by first | (simpa using Array.mem_of_getElem? ht) | (have h := Array.mem_of_getElem? ht; simp at h; rcases h with h | h | h | h | h | h <;> simp [h]) | (have h := Array.mem_of_getElem? ht; simp at h; rcases h with h | h | h | h | h <;> simp [h]) | (have h := Array.mem_of_getElem? ht; simp at h; rcases h with h | h | h | h <;> simp [h])
  rcases ht' with rfl | rfl | rfl
  · exact (show Tryz.prog.wantsStandIn 29 = false by kernel_rfl)
  · exact (show Tryz.prog.wantsStandIn 31 = false by kernel_rfl)
  · exact (show Tryz.prog.wantsStandIn 9 = false by kernel_rfl)
end Go.Proofs.YtocibklkpnblgaaGreatDoor.updateBytesDone
namespace Go.Proofs.YtocibklkpnblgaaGreatDoor
theorem updateBytes_holds : Rows.UpdateBytesCardSaid :=
  Claim7.holds_tied_plain_at .later [] _ _ _ _ updateBytesDone.said (fun _ h => by cases h) (by kernel_rfl) (fun _ h => by cases h) updateBytes_row_tie rfl ⟨rfl, rfl⟩ (by kernel_rfl) rfl updateBytesDone.plain (by kernel_rfl)
#print axioms updateBytes_holds
end Go.Proofs.YtocibklkpnblgaaGreatDoor
