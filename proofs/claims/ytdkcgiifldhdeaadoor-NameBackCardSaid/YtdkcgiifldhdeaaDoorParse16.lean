/-
  WHAT internal/strconv.ParseUint RETURNS IN BASE SIXTEEN AT THIRTY-ONE BITS: the number, where all signs are small digits of base sixteen and it is small enough; else a number or an error's code.
-/
import Derived.Test.YtdkcgiifldhdeaaDoorQuoteP
import Derived.Test.YtdkcgiifldhdeaaDoorConvB
namespace Go.Proofs.YtdkcgiifldhdeaaDoor
open Go.RowKit
set_option linter.unusedSimpArgs false
set_option linter.unusedVariables false

theorem or_facts : ∀ n : Nat, n < 256 → bits .or .u8 (n : Int) 32 = ((n ||| 32 : Nat) : Int) ∧ (n ||| 32) < 256 ∧ (97 ≤ n ∧ n ≤ 122 → (n ||| 32) = n) ∧ (n < 58 → (n ||| 32) < 97) ∧ (n = 95 → (n ||| 32) = 127) := by decide +kernel
theorem lower_calls (c : Nat) (hc : c < 256) (w : World) : Calls Tryd.prog 72 #[.int .u8 (c : Int)] w fun e w' => e = .returned (.int .u8 ((c ||| 32 : Nat) : Int)) ∧ w' = w := by
  have h := (or_facts c hc).1
  generalize (c ||| 32) = L at *
  go_enter Tryd.func72, Tryd.ntmps72
  go_wp2
  go_ret
  exact ⟨by rw [← h]; rfl, rfl⟩
/-- All signs are small digits of base sixteen. -/
def HexAll (l : List UInt8) : Prop := ∀ c ∈ l, hexv c < 16
theorem hexFold_snoc (l : List UInt8) (c : UInt8) : hexFold 0 (l ++ [c]) = 16 * hexFold 0 l + hexv c := by unfold hexFold; rw [List.foldl_append]; rfl
def ParseIs (l : List UInt8) (r : Value) : Prop :=
  (∃ n : Nat, n < 2147483648 ∧ r = .tuple #[.int .u64 (n : Int), .nilIface] ∧ (HexAll l → n = hexFold 0 l)) ∨
  ((∃ (v k : Int), (k = 1 ∨ k = 2) ∧ r = .tuple #[.int .u64 v, .iface 86 (.int .i64 k)]) ∧ ¬ (HexAll l ∧ l ≠ [] ∧ hexFold 0 l < 2147483648))
theorem hexFold_mono (l m : List UInt8) (h : hexFold 0 (l ++ m) < 2147483648) : hexFold 0 l < 2147483648 := by
  have key : ∀ (m : List UInt8) (a : Nat), a ≤ hexFold a m := by
    intro m
    induction m with
    | nil => intro a; exact Nat.le_refl _
    | cons c m ih => intro a; exact Nat.le_trans (by omega) (ih (16 * a + hexv c))
  rw [hexFold_append] at h
  exact Nat.lt_of_le_of_lt (key m _) h
set_option maxHeartbeats 4000000 in
set_option maxRecDepth 100000 in
theorem parse16_calls (l : List UInt8) (hl : l.length ≤ 1000000000) (w : World) :
    Calls Tryd.prog 64 #[.string (str l), .int .i64 16, .int .i64 31] w fun e w' => ∃ r, e = .returned r ∧ ParseIs l r ∧ Below w.heap.size w w' := by
  by_cases hne : l = []
  · subst hne
    have hE : (str ([] : List UInt8)).toList.isEmpty = true := by rw [ByteArray.toList_eq, str_toList]; rfl
    have HP : Hid (ParseIs [] (.tuple #[.int .u64 0, .iface 86 (.int .i64 2)])) := .inr ⟨⟨_, _, .inr rfl, rfl⟩, fun hh => hh.2.1 rfl⟩
    go_enter Tryd.func64, Tryd.ntmps64
    go_wp2
    go_ret2
    exact ⟨_, rfl, unhide HP, Below.refl _ _⟩
  · have hE : (str l).toList.isEmpty = false := by
      rw [ByteArray.toList_eq, str_toList]; simpa using hne
    have hcv := conv_run l w
    have hby := bworld_bytes w l
    have hbb := bworld_below l (Below.refl w.heap.size w) (Nat.le_refl _)
    generalize bworld w l = W at *
    generalize bcap w l = cp at *
    have Hby := hide hby
    have Hne := hide hne
    clear hby hne
    go_enter Tryd.func64, Tryd.ntmps64
    go_wp2
    go_loopw [12, 13, 101] (fun us a i wr => ∃ j n : Nat, j ≤ l.length ∧ n < 2147483648 ∧ us = .bool false ∧ i = .int .i64 (j : Int) ∧ a = .int .u64 (n : Int) ∧ Hid (HexAll l → n = hexFold 0 (l.take j)) ∧ wr = W) (fun _ _ i _ => l.length - (intOf i).toNat)
    case atStart => exact ⟨0, 0, by omega, by omega, rfl, rfl, rfl, fun _ => rfl, rfl⟩
    case round =>
      obtain ⟨j, n, hj, hn, rfl, rfl, rfl, hX, rfl⟩ := hrel
      by_cases hlt : j < l.length
      · have hd : decide (j < l.length) = true := by simpa using hlt
        have c : wr.cell? ⟨w.heap.size, j, none⟩ = some (.int .u8 ((l.getD j 0).toNat : Int)) := by
          have := unhide Hby j hlt
          rwa [Nat.zero_add] at this
        have bk : (j : Int) < (l.length : Int) := by omega
        have hmem : l.getD j 0 ∈ l := by rw [List.getD_eq_getElem?_getD, List.getElem?_eq_getElem hlt]; exact List.getElem_mem _
        have Hc0 : Hid (HexAll l → hexv (l.getD j 0) < 16) := fun hA => hA _ hmem
        have Hxs : Hid (HexAll l → hexFold 0 (l.take (j + 1)) = 16 * n + hexv (l.getD j 0)) := fun hA => by
          rw [take_snoc' l j 0 hlt, hexFold_snoc, ← unhide hX hA]
        have hx8 := (l.getD j 0).toNat_lt
        have hvd : hexv (l.getD j 0) = (if 48 ≤ (l.getD j 0).toNat ∧ (l.getD j 0).toNat ≤ 57 then (l.getD j 0).toNat - 48 else if 97 ≤ (l.getD j 0).toNat ∧ (l.getD j 0).toNat ≤ 102 then (l.getD j 0).toNat - 87 else 16) := rfl
        generalize hexv (l.getD j 0) = hv at *
        generalize (l.getD j 0).toNat = x at *
        have cL := fun w => lower_calls x (by omega) w
        have hLb := (or_facts x (by omega)).2.1
        have hLe := (or_facts x (by omega)).2.2.1
        have hLs := (or_facts x (by omega)).2.2.2.1
        have hLu := (or_facts x (by omega)).2.2.2.2
        generalize (x ||| 32) = L at *
        have CL := hide cL
        have u0 : ((x : Int) == 95) = decide (x = 95) := by rw [Bool.eq_iff_iff]; simp; omega
        clear cL hmem
        by_cases cA : 48 ≤ x ∧ x ≤ 57
        · rw [if_pos cA] at hvd
          have f1 : decide ((48 : Int) ≤ (x : Int)) = true := by simp; omega
          have f2 : decide ((x : Int) ≤ 57) = true := by simp; omega
          have u1 : ((x : Int) == 95) = false := by simp; omega
          obtain ⟨d, hdd, fd⟩ : ∃ d : Nat, Hid (x - 48 = d) ∧ (x : Int) - 48 = (d : Int) := ⟨_, rfl, by omega⟩
          have hd16 : d < 10 := by have := unhide hdd; omega
          have hdv : Hid (hv < 16 → hv = d) := fun _ => by rw [hvd]; exact unhide hdd
          clear hvd cA hLe u0 hLs hLu
          obtain ⟨q, hq, eq⟩ : ∃ q : Nat, Hid (n * 16 = q) ∧ (n : Int) * 16 = (q : Int) := ⟨_, rfl, by omega⟩
          obtain ⟨p, hp, ep⟩ : ∃ p : Nat, Hid (q + d = p) ∧ (q : Int) + (d : Int) = (p : Int) := ⟨_, rfl, by omega⟩
          have hqb : q < 34359738368 := by have := unhide hq; omega
          have hpb : p < 34359738384 := by have := unhide hp; omega
          have g1 : decide ((16 : Int) ≤ (d : Int)) = false := by simp; omega
          have g2 : decide ((1152921504606846976 : Int) ≤ (n : Int)) = false := by simp; omega
          have g3 : decide (p < q) = false := by have := unhide hp; simp; omega
          have hpX : Hid (HexAll l → p = hexFold 0 (l.take (j + 1))) := by
            intro hA
            rw [unhide Hxs hA, unhide hdv (unhide Hc0 hA)]
            have h1 := unhide hq; have h2 := unhide hp; omega
          by_cases hr : 2147483647 < p
          · have g4 : decide ((2147483647 : Int) < (p : Int)) = true := by simp; omega
            have HP : Hid (ParseIs l (.tuple #[.int .u64 2147483647, .iface 86 (.int .i64 1)])) := .inr ⟨⟨_, _, .inl rfl, rfl⟩, fun hh => by
              have h1 := unhide hpX hh.1
              have h2 := hexFold_mono (l.take (j + 1)) (l.drop (j + 1)) (by rw [List.take_append_drop]; exact hh.2.2)
              omega⟩
            clear hX Hc0 Hxs hpX hr hdv
            go_wp2
            go_ret2
            exact ⟨_, rfl, unhide HP, hbb⟩
          · have g4 : decide ((2147483647 : Int) < (p : Int)) = false := by simp; omega
            have hp2 : p < 2147483648 := by omega
            clear hX Hc0 Hxs hr hdv
            go_wp2
            go_roundw
            case rel => exact ⟨j + 1, p, by omega, hp2, rfl, by go_num, rfl, hpX, trivial⟩
            case measure => simp [intOf]; omega
        · rw [if_neg cA] at hvd
          by_cases cL2 : 97 ≤ L ∧ L ≤ 122
          · have f1 : decide ((48 : Int) ≤ (x : Int)) = true := by simp; omega
            have f2 : decide ((x : Int) ≤ 57) = false := by simp; omega
            have u1 : ((x : Int) == 95) = false := by simp; omega
            have t1 : decide ((97 : Int) ≤ (L : Int)) = true := by simp; omega
            have t2 : decide ((L : Int) ≤ 122) = true := by simp; omega
            obtain ⟨k, hk, ek⟩ : ∃ k : Nat, Hid (L - 97 = k) ∧ (L : Int) - 97 = (k : Int) := ⟨_, rfl, by omega⟩
            obtain ⟨d, hdd, fd⟩ : ∃ d : Nat, Hid (k + 10 = d) ∧ (k : Int) + 10 = (d : Int) := ⟨_, rfl, by omega⟩
            have hdb : d < 36 := by have h1 := unhide hk; have h2 := unhide hdd; omega
            have hdv : Hid (hv < 16 → hv = d ∧ d < 16) := fun hh => by
              have h1 := unhide hk; have h2 := unhide hdd
              by_cases c9 : 97 ≤ x ∧ x ≤ 102
              · rw [if_pos c9] at hvd
                have := hLe (by omega)
                omega
              · rw [if_neg c9] at hvd; omega
            clear hvd hLe hLs hLu cA cL2 u0
            by_cases hd16 : d < 16
            · have hdv2 := hdv
              have hdv : Hid (hv < 16 → hv = d) := fun hh => (unhide hdv2 hh).1
              clear hdv2
              obtain ⟨q, hq, eq⟩ : ∃ q : Nat, Hid (n * 16 = q) ∧ (n : Int) * 16 = (q : Int) := ⟨_, rfl, by omega⟩
              obtain ⟨p, hp, ep⟩ : ∃ p : Nat, Hid (q + d = p) ∧ (q : Int) + (d : Int) = (p : Int) := ⟨_, rfl, by omega⟩
              have hqb : q < 34359738368 := by have := unhide hq; omega
              have hpb : p < 34359738384 := by have := unhide hp; omega
              have g1 : decide ((16 : Int) ≤ (d : Int)) = false := by simp; omega
              have g2 : decide ((1152921504606846976 : Int) ≤ (n : Int)) = false := by simp; omega
              have g3 : decide (p < q) = false := by have := unhide hp; simp; omega
              have hpX : Hid (HexAll l → p = hexFold 0 (l.take (j + 1))) := by
                intro hA
                rw [unhide Hxs hA, unhide hdv (unhide Hc0 hA)]
                have h1 := unhide hq; have h2 := unhide hp; omega
              by_cases hr : 2147483647 < p
              · have g4 : decide ((2147483647 : Int) < (p : Int)) = true := by simp; omega
                have HP : Hid (ParseIs l (.tuple #[.int .u64 2147483647, .iface 86 (.int .i64 1)])) := .inr ⟨⟨_, _, .inl rfl, rfl⟩, fun hh => by
                  have h1 := unhide hpX hh.1
                  have h2 := hexFold_mono (l.take (j + 1)) (l.drop (j + 1)) (by rw [List.take_append_drop]; exact hh.2.2)
                  omega⟩
                clear hX Hc0 Hxs hpX hr hdv
                go_wp2_with fail
                refine (unhide CL _).mono ?_
                rintro e w9 ⟨rfl, rfl⟩
                go_wp2_with fail
                refine (unhide CL _).mono ?_
                rintro e w9 ⟨rfl, rfl⟩
                go_wp2_with fail
                refine (unhide CL _).mono ?_
                rintro e w9 ⟨rfl, rfl⟩
                go_wp2
                go_ret2
                exact ⟨_, rfl, unhide HP, hbb⟩
              · have g4 : decide ((2147483647 : Int) < (p : Int)) = false := by simp; omega
                have hp2 : p < 2147483648 := by omega
                clear hX Hc0 Hxs hr hdv
                go_wp2_with fail
                refine (unhide CL _).mono ?_
                rintro e w9 ⟨rfl, rfl⟩
                go_wp2_with fail
                refine (unhide CL _).mono ?_
                rintro e w9 ⟨rfl, rfl⟩
                go_wp2_with fail
                refine (unhide CL _).mono ?_
                rintro e w9 ⟨rfl, rfl⟩
                go_wp2
                go_roundw
                case rel => exact ⟨j + 1, p, by omega, hp2, rfl, by go_num, rfl, hpX, trivial⟩
                case measure => simp [intOf]; omega
            · have g1 : decide ((16 : Int) ≤ (d : Int)) = true := by simp; omega
              have HP : Hid (ParseIs l (.tuple #[.int .u64 0, .iface 86 (.int .i64 2)])) := .inr ⟨⟨_, _, .inr rfl, rfl⟩, fun hh => hd16 (unhide hdv (unhide Hc0 hh.1)).2⟩
              clear hX Hc0 Hxs hdv hd16
              go_wp2_with fail
              refine (unhide CL _).mono ?_
              rintro e w9 ⟨rfl, rfl⟩
              go_wp2_with fail
              refine (unhide CL _).mono ?_
              rintro e w9 ⟨rfl, rfl⟩
              go_wp2_with fail
              refine (unhide CL _).mono ?_
              rintro e w9 ⟨rfl, rfl⟩
              go_wp2
              go_ret2
              exact ⟨_, rfl, unhide HP, hbb⟩
          · have HP : Hid (ParseIs l (.tuple #[.int .u64 0, .iface 86 (.int .i64 2)])) := .inr ⟨⟨_, _, .inr rfl, rfl⟩, fun hh => by
              have h1 := unhide Hc0 hh.1
              by_cases c9 : 97 ≤ x ∧ x ≤ 102
              · have := hLe (by omega)
                omega
              · rw [if_neg c9] at hvd; omega⟩
            have hsp : (x < 48 ∧ L < 97) ∨ (57 < x ∧ L < 97) ∨ (57 < x ∧ 122 < L ∧ x ≠ 95) ∨ (57 < x ∧ 122 < L ∧ x = 95) := by omega
            rcases hsp with h9 | h9 | h9 | h9
            · have f1 : decide ((48 : Int) ≤ (x : Int)) = false := by simp; omega
              have u1 : ((x : Int) == 95) = false := by simp; omega
              have t1 : decide ((97 : Int) ≤ (L : Int)) = false := by simp; omega
              clear hX Hc0 Hxs hvd hLe hLs hLu cA cL2 u0
              go_wp2_with fail
              refine (unhide CL _).mono ?_
              rintro e w9 ⟨rfl, rfl⟩
              go_wp2
              go_ret2
              exact ⟨_, rfl, unhide HP, hbb⟩
            · have f1 : decide ((48 : Int) ≤ (x : Int)) = true := by simp; omega
              have f2 : decide ((x : Int) ≤ 57) = false := by simp; omega
              have u1 : ((x : Int) == 95) = false := by simp; omega
              have t1 : decide ((97 : Int) ≤ (L : Int)) = false := by simp; omega
              clear hX Hc0 Hxs hvd hLe hLs hLu cA cL2 u0
              go_wp2_with fail
              refine (unhide CL _).mono ?_
              rintro e w9 ⟨rfl, rfl⟩
              go_wp2
              go_ret2
              exact ⟨_, rfl, unhide HP, hbb⟩
            · have f1 : decide ((48 : Int) ≤ (x : Int)) = true := by simp; omega
              have f2 : decide ((x : Int) ≤ 57) = false := by simp; omega
              have u1 : ((x : Int) == 95) = false := by simp; omega
              have t1 : decide ((97 : Int) ≤ (L : Int)) = true := by simp; omega
              have t2 : decide ((L : Int) ≤ 122) = false := by simp; omega
              clear hX Hc0 Hxs hvd hLe hLs hLu cA cL2 u0
              go_wp2_with fail
              refine (unhide CL _).mono ?_
              rintro e w9 ⟨rfl, rfl⟩
              go_wp2_with fail
              refine (unhide CL _).mono ?_
              rintro e w9 ⟨rfl, rfl⟩
              go_wp2
              go_ret2
              exact ⟨_, rfl, unhide HP, hbb⟩
            · obtain ⟨_, h9b, rfl⟩ := h9
              have t1 : decide ((97 : Int) ≤ (L : Int)) = true := by simp; omega
              have t2 : decide ((L : Int) ≤ 122) = false := by simp; omega
              have CL2 : Hid (∀ w, Calls Tryd.prog 72 #[.int .u8 95] w fun e w' => e = .returned (.int .u8 (L : Int)) ∧ w' = w) := fun w => unhide CL w
              clear hX Hc0 Hxs hvd hLe hLs hLu cA cL2 u0 CL
              go_wp2_with fail
              refine (unhide CL2 _).mono ?_
              rintro e w9 ⟨rfl, rfl⟩
              go_wp2_with fail
              refine (unhide CL2 _).mono ?_
              rintro e w9 ⟨rfl, rfl⟩
              go_wp2
              go_ret2
              exact ⟨_, rfl, unhide HP, hbb⟩
      · have hd : decide (j < l.length) = false := by simpa using hlt
        have hX2 := unhide hX
        rw [List.take_of_length_le (by omega)] at hX2
        have HP : Hid (ParseIs l (.tuple #[.int .u64 (n : Int), .nilIface])) := .inl ⟨n, hn, rfl, hX2⟩
        clear hX hX2
        go_wp2
        go_ret2
        exact ⟨_, rfl, unhide HP, hbb⟩
end Go.Proofs.YtdkcgiifldhdeaaDoor
