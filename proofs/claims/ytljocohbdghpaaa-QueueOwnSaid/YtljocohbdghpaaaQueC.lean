/-
  PACKAGE queue AT int: Push, Through, Last.
-/
import Derived.Test.YtljocohbdghpaaaQueA
namespace Go.Proofs.Ytljocohbdghpaaa
open Go Go.RowKit
set_option linter.unusedSimpArgs false
set_option linter.unusedVariables false

set_option maxHeartbeats 1000000 in
set_option maxRecDepth 100000 in
theorem pushI_calls (xs : List Int) (hn : xs.length ≤ 1000000) (x : Int) (m : Int) (p : Option Addr) (c : Nat) (w : World) (hB : VL w p (xs.map enI)) :
    Calls Try.prog 8 #[.slice p xs.length c, enI x, .int .i64 m] w fun e w' => (∃ v, e = .returned (.tuple #[v, .int .i64 (pPushE xs.length m)]) ∧ w'.ownsRow w.heap.size 3 1 v (pPushL xs x m).length ((pPushL xs x m).map enI)) ∧ Below w.heap.size w w' := by
  have k := hide (cloneI_calls xs hn p c w hB)
  by_cases hm : m ≤ (xs.length : Int)
  · have hd : decide (m ≤ (xs.length : Int)) = true := decide_eq_true hm
    unfold pPushL pPushE
    rw [if_pos hm, if_pos hm]
    generalize xs.map enI = L at *
    generalize xs.length = n at *
    simp only [enI] at *
    clear hB hm
    go_enter Try.func8, Try.ntmps8
    go_wp2_with fail
    refine (unhide k).mono ?_
    rintro e w1 ⟨⟨v, rfl, ho⟩, b1⟩
    clear k
    go_wp2
    go_ret2
    exact ⟨⟨v, rfl, ho⟩, b1⟩
  · have hd : decide (m ≤ (xs.length : Int)) = false := decide_eq_false hm
    unfold pPushL pPushE
    rw [if_neg hm, if_neg hm, List.length_append, List.map_append, List.map_cons, List.map_nil, List.length_singleton]
    generalize xs.map enI = L at *
    generalize xs.length = n at *
    have h1 := oneI x
    simp only [enI] at *
    clear hB hm
    go_enter Try.func8, Try.ntmps8
    go_wp2_with fail
    refine (unhide k).mono ?_
    rintro e w1 ⟨⟨v, rfl, ho⟩, b1⟩
    clear k
    have V1 := hide (VL_one w1 (enI x) 3)
    simp only [enI] at V1
    have bb := b1.alloc b1.size (.cells #[enI x] 3)
    simp only [enI] at bb
    go_wp2_with (at_builtin; (refine wpList_append_v _ rfl 22 3 (.tmp 16) (.tmp 18) rfl Try.underlying22 infoI (by decide) w.heap.size v n L rfl (ho.alloc _) (by rw [World.size_alloc]; have := b1.size; omega) [_] 1 rfl (fun u hu => by simp at hu; subst hu; exact h1) ⟨w1.heap.size, 0, none⟩ 1 (unhide V1) rfl (by omega) ?_); intro v' w3 hown hb3)
    go_ret2
    exact ⟨⟨v', rfl, hown⟩, bb.trans hb3⟩
set_option maxHeartbeats 1000000 in
set_option maxRecDepth 100000 in
theorem lastNI_calls (p : Option Addr) (c : Nat) (w : World) :
    Calls Try.prog 12 #[.slice p 0 c] w fun e w' => e = .returned (.tuple #[.int .i64 0, .bool false]) ∧ w' = w := by
  go_enter Try.func12, Try.ntmps12
  go_wp2
  go_ret2
  exact ⟨rfl, rfl⟩
set_option maxHeartbeats 1000000 in
set_option maxRecDepth 100000 in
theorem lastI_calls (xs : List Int) (hn : xs.length ≤ 1000000) (y : Int) (k : Nat) (hk : xs.length = k + 1) (hy : xs[k]? = some y) (p : Option Addr) (c : Nat) (w : World) (hB : VL w p (xs.map enI)) :
    Calls Try.prog 12 #[.slice p xs.length c] w fun e w' => e = .returned (.tuple #[enI y, .bool true]) ∧ Below w.heap.size w w' := by
  obtain ⟨b, off, rfl, hzb, hbr⟩ := hB (by intro h0; have := congrArg List.length h0; simp at this; rw [this] at hk; simp at hk)
  have hr0 := hbr k (by simp; omega)
  rw [List.getElem?_map, hy, Option.map_some] at hr0
  rw [hk] at hn ⊢
  have hd : decide (((k + 1 : Nat) : Int) = 0) = false := by simp; omega
  clear hB hbr hy hk hzb
  generalize enI y = Y at *
  go_enter Try.func12, Try.ntmps12
  go_wp2
  go_ret2
  exact ⟨rfl, Below.refl _ _⟩
set_option maxHeartbeats 1000000 in
set_option maxRecDepth 100000 in
theorem throughI_calls (xs : List Int) (hn : xs.length ≤ 1000000) (x : Int) (p : Option Addr) (c : Nat) (w : World) (hc : xs.length ≤ c) (hB : VL w p (xs.map enI)) :
    Calls Try.prog 10 #[.slice p xs.length c, enI x] w fun e w' => (∃ v, e = .returned (.tuple #[v, .bool (decide (x ∈ xs))]) ∧ w'.ownsRow w.heap.size 3 1 v (pThr x xs).length ((pThr x xs).map enI)) ∧ Below w.heap.size w w' := by
  have k := hide (placeI_calls xs hn x p c w hB)
  by_cases hm : x ∈ xs
  · have e0 : pAt x xs = (ixO x xs : Int) := by unfold pAt; rw [if_pos hm]
    have hlt := ixO_lt hm
    unfold pThr
    rw [decide_eq_true hm, if_pos hm]
    rw [e0] at k
    generalize ixO x xs = j at *
    have hne : xs.length ≠ 0 := by omega
    obtain ⟨b, off, rfl, hzb, hbr⟩ := hB (by intro h0; apply hne; have := congrArg List.length h0; simpa using this)
    have CL := hide (fun (p' : Option Addr) (c' : Nat) W (h : VL W p' ((xs.drop (j + 1)).map enI)) => cloneI_calls (xs.drop (j + 1)) (by rw [List.length_drop]; omega) p' c' W h)
    rw [List.length_drop] at CL ⊢
    have HB := hide hB
    obtain ⟨n, hnn⟩ : ∃ n, xs.length = n := ⟨_, rfl⟩
    rw [hnn] at hn hc k CL hlt ⊢
    have HN := hide hnn
    have hd : decide ((j : Int) < 0) = false := by simp
    clear hB hbr hnn e0 hm hne hzb
    simp only [enI] at k ⊢
    go_enter Try.func10, Try.ntmps10
    go_wp2_with fail
    refine (unhide k).mono ?_
    rintro e w1 ⟨rfl, b1⟩
    clear k
    go_wp2_with fail
    case inl h =>
      have V0 := hide (show VL w1 (some ⟨b, off, none⟩) ((xs.drop (j + 1)).map enI) from fun hn' => absurd (by rw [List.drop_eq_nil_of_le (by have := unhide HN; omega)]; rfl) hn')
      refine (unhide CL _ _ _ (unhide V0)).mono ?_
      rintro e w2 ⟨⟨v, rfl, ho⟩, b2⟩
      have b3 := b1.trans (b2.mono b1.size)
      have O := hide (vowns_base ho b1.size)
      clear V0 b2 b1 ho CL
      go_wp2
      go_ret2
      exact ⟨⟨v, rfl, unhide O⟩, b3⟩
    case inr h =>
      have V0 := hide (VL.drop ((unhide HB).below b1 (Nat.le_refl _)) (j + 1))
      rw [← List.map_drop] at V0
      refine (unhide CL _ _ _ (unhide V0)).mono ?_
      rintro e w2 ⟨⟨v, rfl, ho⟩, b2⟩
      have b3 := b1.trans (b2.mono b1.size)
      have O := hide (vowns_base ho b1.size)
      clear V0 b2 b1 ho CL
      go_wp2
      go_ret2
      exact ⟨⟨v, rfl, unhide O⟩, b3⟩
  · have e0 : pAt x xs = -1 := by unfold pAt; rw [if_neg hm]
    unfold pThr
    rw [decide_eq_false hm, if_neg hm]
    rw [e0] at k
    have HB := hide hB
    have CL := hide (fun W (h : VL W p (xs.map enI)) => cloneI_calls xs hn p c W h)
    generalize xs.length = n at *
    clear hB e0 hm
    simp only [enI] at k ⊢
    go_enter Try.func10, Try.ntmps10
    go_wp2_with fail
    refine (unhide k).mono ?_
    rintro e w1 ⟨rfl, b1⟩
    clear k
    have V0 := hide ((unhide HB).below b1 (Nat.le_refl _))
    go_wp2_with fail
    refine (unhide CL _ (unhide V0)).mono ?_
    rintro e w2 ⟨⟨v, rfl, ho⟩, b2⟩
    have b3 := b1.trans (b2.mono b1.size)
    have O := hide (vowns_base ho b1.size)
    clear V0 b2 b1 ho CL
    go_wp2
    go_ret2
    exact ⟨⟨v, rfl, unhide O⟩, b3⟩
end Go.Proofs.Ytljocohbdghpaaa
