/-
  THE DOCUMENT'S At, Push, Through, Ahead, Trim, Same OF LAYER 15.
-/
import Derived.Test.YtljocohbdghpaaaQueE
import Derived.Test.YtljocohbdghpaaaQuietTail
namespace Go.Proofs.Ytljocohbdghpaaa
open Go Go.RowKit
set_option linter.unusedSimpArgs false
set_option linter.unusedVariables false

set_option maxHeartbeats 1000000 in
set_option maxRecDepth 100000 in
theorem rat_calls (xs : List Int) (hn : xs.length ≤ 1000000) (x : Int) (p : Option Addr) (c : Nat) (w : World) (hB : VL w p (xs.map enI)) :
    Calls Try.prog 15 #[.slice p xs.length c, .int .i64 x] w fun e w' => e = .returned (.int .i64 (pAt x xs)) ∧ Below w.heap.size w w' := by
  have HB := hide hB
  obtain ⟨n, hnn⟩ : ∃ n, xs.length = n := ⟨_, rfl⟩
  rw [hnn] at hn
  rw [hnn]
  have HN := hide hnn
  clear hB hnn
  go_enter Try.func15, Try.ntmps15
  go_wp2
  go_loopw [5, 8] (fun i5 i wr => ∃ j : Nat, j ≤ n ∧ i = .int .i64 (j : Int) ∧ Below w.heap.size w wr ∧ Hid (∀ i, i < j → xs[i]? ≠ some x)) (fun _ i _ => n - (intOf i).toNat)
  case atStart => exact ⟨0, by omega, rfl, Below.refl _ _, hide fun i hi => absurd hi (Nat.not_lt_zero _)⟩
  case round =>
    obtain ⟨j, hj, rfl, hb, hno⟩ := hrel
    by_cases hlt : j < n
    · have hd : decide (j < n) = true := by simpa using hlt
      have bk : (j : Int) < (n : Int) := by omega
      have hl : j < (xs.map enI).length := by rw [List.length_map, unhide HN]; exact hlt
      obtain ⟨b, off, rfl, hzb, hbr⟩ := (unhide HB).below hb (Nat.le_refl _) (by intro h0; rw [h0] at hl; simp at hl)
      have hr0 := hbr j hl
      obtain ⟨y, hy⟩ : ∃ y, xs[j]? = some y := ⟨_, List.getElem?_eq_getElem (by rw [unhide HN]; exact hlt)⟩
      rw [List.getElem?_map, hy, Option.map_some] at hr0
      simp only [enI] at hr0
      have HY := hide hy
      obtain ⟨ans, hans⟩ : ∃ ans, (y == x) = ans := ⟨_, rfl⟩
      have Hans := hide hans
      clear hbr hy hzb hl
      cases ans with
      | true =>
        go_wp2
        go_ret
        refine ⟨?_, hb⟩
        have e : y = x := by simpa using unhide Hans
        rw [pAt_hit x xs j (by rw [← e]; exact unhide HY) (unhide hno)]
        rfl
      | false =>
        go_wp2
        go_roundw
        case rel => exact ⟨j + 1, by omega, by go_num, hb, hide fun i hi => by
          rcases Nat.lt_succ_iff_lt_or_eq.1 hi with h' | rfl
          · exact unhide hno i h'
          · rw [unhide HY]; intro h'; have := Option.some.inj h'; have h2 := unhide Hans; simp [this] at h2⟩
        case measure => simp [intOf]; omega
    · have hd : decide (j < n) = false := by simpa using hlt
      go_wp2
      go_ret
      refine ⟨?_, hb⟩
      rw [pAt_miss x xs (fun i hi => unhide hno i (by have := unhide HN; omega))]
      rfl
set_option maxHeartbeats 1000000 in
set_option maxRecDepth 100000 in
theorem rsame_calls (xs ys : List Int) (hn : xs.length ≤ 1000000) (p q : Option Addr) (c d m : Nat) (hm : ys.length = m) (hm2 : m ≤ 2000000) (w : World) (hB : VL w p (xs.map enI)) (hC : VL w q (ys.map enI)) :
    Calls Try.prog 13 #[.slice p xs.length c, .slice q m d] w fun e w' => e = .returned (.bool (decide (xs = ys))) ∧ Below w.heap.size w w' := by
  obtain ⟨n, hnn⟩ : ∃ n, xs.length = n := ⟨_, rfl⟩
  rw [hnn] at hn ⊢
  by_cases hnm : n = m
  · subst hnm
    have HB := hide hB
    have HC := hide hC
    have HN := hide hnn
    have HM := hide hm
    clear hB hC hnn hm
    go_enter Try.func13, Try.ntmps13
    go_wp2
    go_loopw [5, 13] (fun i5 i wr => ∃ j : Nat, j ≤ n ∧ i = .int .i64 (j : Int) ∧ Below w.heap.size w wr ∧ Hid (∀ i, i < j → xs[i]? = ys[i]?)) (fun _ i _ => n - (intOf i).toNat)
    case atStart => exact ⟨0, by omega, rfl, Below.refl _ _, hide fun i hi => absurd hi (Nat.not_lt_zero _)⟩
    case round =>
      obtain ⟨j, hj, rfl, hb, hno⟩ := hrel
      by_cases hlt : j < n
      · have hd : decide (j < n) = true := by simpa using hlt
        have bk : (j : Int) < (n : Int) := by omega
        have hl : j < (xs.map enI).length := by rw [List.length_map, unhide HN]; exact hlt
        have hl2 : j < (ys.map enI).length := by rw [List.length_map, unhide HM]; exact hlt
        obtain ⟨b, off, rfl, hzb, hbr⟩ := (unhide HB).below hb (Nat.le_refl _) (by intro h0; rw [h0] at hl; simp at hl)
        obtain ⟨b', off', rfl, hzb', hbr'⟩ := (unhide HC).below hb (Nat.le_refl _) (by intro h0; rw [h0] at hl2; simp at hl2)
        have hr0 := hbr j hl
        have hr1 := hbr' j hl2
        obtain ⟨y, hy⟩ : ∃ y, xs[j]? = some y := ⟨_, List.getElem?_eq_getElem (by rw [unhide HN]; exact hlt)⟩
        obtain ⟨z, hz⟩ : ∃ z, ys[j]? = some z := ⟨_, List.getElem?_eq_getElem (by rw [unhide HM]; exact hlt)⟩
        rw [List.getElem?_map, hy, Option.map_some] at hr0
        rw [List.getElem?_map, hz, Option.map_some] at hr1
        simp only [enI] at hr0 hr1
        have r0 : ∀ dd os, (Sort.grow (redrawn wr dd) os).cell? ⟨b, off + j, none⟩ = some (.int .i64 y) := fun dd os => by rw [(below_regrown wr dd os).cell (p := ⟨b, off + j, none⟩) hzb]; exact hr0
        have r1 : ∀ dd os, (Sort.grow (redrawn wr dd) os).cell? ⟨b', off' + j, none⟩ = some (.int .i64 z) := fun dd os => by rw [(below_regrown wr dd os).cell (p := ⟨b', off' + j, none⟩) hzb']; exact hr1
        have HY := hide hy
        have HZ := hide hz
        obtain ⟨ans, hans⟩ : ∃ ans, (y == z) = ans := ⟨_, rfl⟩
        have Hans := hide hans
        clear hbr hy hzb hl hbr' hz hzb' hl2 hr0 hr1
        cases ans with
        | true =>
          go_wp2_with fail
          refine wp_region_below (show Try.prog.follows .mixedOrders = true by kernel_rfl) (by kernel_rfl) ?_
          quiet_step (fail)
          quiet_step (fail)
          quiet_step (fail)
          quiet_step (fail)
          quiet_step (fail)
          quiet_step (fail)
          quiet_step (fail)
          quiet_step (fail)
          quiet_step (fail)
          refine wpQuiet_nil ?_
          intro w3 hb3
          have b3 := hb.trans (hb3.mono hb.size)
          clear r0 r1 hb3 hb
          go_wp2
          go_roundw
          case rel => exact ⟨j + 1, by omega, by go_num, b3, hide fun i hi => by
            rcases Nat.lt_succ_iff_lt_or_eq.1 hi with h' | rfl
            · exact unhide hno i h'
            · rw [unhide HY, unhide HZ, show y = z by simpa using unhide Hans]⟩
          case measure => simp [intOf]; omega
        | false =>
          have hyz : y ≠ z := by simpa using unhide Hans
          have hne : decide (xs = ys) = false := decide_eq_false fun h => hyz (by have h1 := unhide HY; rw [h, unhide HZ] at h1; exact (Option.some.inj h1).symm)
          have HE := hide hne
          clear hyz hne
          go_wp2_with fail
          refine wp_region_below (show Try.prog.follows .mixedOrders = true by kernel_rfl) (by kernel_rfl) ?_
          quiet_step (fail)
          quiet_step (fail)
          quiet_step (fail)
          quiet_step (fail)
          quiet_step (fail)
          quiet_step (fail)
          quiet_step (fail)
          quiet_step (fail)
          quiet_step (fail)
          refine wpQuiet_nil ?_
          intro w3 hb3
          have b3 := hb.trans (hb3.mono hb.size)
          clear r0 r1 hb3 hb
          go_wp2
          go_ret
          refine ⟨?_, b3⟩
          rw [unhide HE]
          rfl
      · have hd : decide (j < n) = false := by simpa using hlt
        have hjn : j = n := by omega
        have HJ := hide hjn
        clear hjn
        go_wp2
        go_ret
        refine ⟨?_, hb⟩
        rw [decide_eq_true]
        · rfl
        · apply List.ext_getElem?
          intro i
          by_cases hi : i < n
          · exact unhide hno i (by have := unhide HJ; omega)
          · rw [List.getElem?_eq_none (by have := unhide HN; omega), List.getElem?_eq_none (by have := unhide HM; omega)]
  · have hd : decide ((n : Int) = (m : Int)) = false := decide_eq_false (by omega)
    have hd2 : decide (n = m) = false := decide_eq_false hnm
    have hb2 : ((n : Int) == (m : Int)) = false := by simp; omega
    have hne : decide (xs = ys) = false := decide_eq_false fun h => hnm (by rw [← hnn, ← hm, h])
    rw [hne]
    clear hne hB hC hnn hm hnm
    go_enter Try.func13, Try.ntmps13
    go_wp2
    go_ret
    exact ⟨rfl, Below.refl _ _⟩
end Go.Proofs.Ytljocohbdghpaaa
