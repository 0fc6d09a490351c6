/-
  THE WALK OF THE LAW ShaParts: whatever the parts, it returns true, and nothing that was there has turned.
-/
import Derived.Test.YtfobcchiakjhgaaDoorShaPartsP
import Derived.Deep.RegionHeld3
namespace Go.Proofs.YtfobcchiakjhgaaDoor
open Go.RowKit
set_option linter.unusedSimpArgs false
set_option linter.unusedVariables false

theorem flat_le (parts : List (List UInt8)) (k : Nat) (h : ∀ j, j < k → (parts.getD j []).length ≤ 2000) (hk : k ≤ parts.length) : (parts.take k).flatten.length ≤ 2000 * k := by
  induction k with
  | zero => simp
  | succ k ih =>
    rw [take_snoc' parts k [] (by omega)]
    have h1 := ih (fun j hj => h j (by omega)) (by omega)
    have h2 := h k (by omega)
    simp only [List.flatten_append, List.length_append, List.flatten_cons, List.flatten_nil, List.append_nil]
    omega

theorem strs_index (w : World) (a : Option Addr) (cap : Nat) (parts : List (List UInt8)) (hs : StrsAt w a parts) (k : Nat) (hk : k < parts.length) :
    ∃ b o, (∀ w', (Instr.indexAt 46 (.slice a parts.length cap) (.int .i64 (k : Int))).run Tryd.prog w' = .ok (.pointer (some ⟨b, o, none⟩)) w') ∧ b < w.heap.size ∧ w.cell? ⟨b, o, none⟩ = some (.string (str (parts.getD k []))) := by
  rcases hs with rfl | ⟨b, o, rfl, hlt, hc⟩
  · simp at hk
  · refine ⟨b, o + k, fun w' => ?_, hlt, hc k hk⟩
    have he : Tryd.prog.elem 46 = 9 := by simp only [Program.elem, Tryd.underlying46]
    rw [run_indexAt_slice w' 46 ⟨b, o, none⟩ parts.length cap .i64 k (by rw [he]; exact Tryd.underlying46), if_pos ⟨Int.natCast_nonneg k, Int.ofNat_lt.2 hk⟩]
    rw [he, Tryd.sizeOf9 w']
    simp [Addr.add]

set_option maxHeartbeats 4000000 in
set_option maxRecDepth 100000 in
theorem shaParts_walk (parts : List (List UInt8)) (hlen : ∀ p ∈ parts, p.length ≤ maxLen) (hn : parts.length ≤ maxLen) (a : Option Addr) (cap : Nat) (w : World) (hs : StrsAt w a parts) (tabs : Tabs w) :
    Calls Tryd.prog 6 #[.slice a parts.length cap] w fun e w' => e = .returned (.bool true) ∧ Below w.heap.size w w' := by
  unfold maxLen at hn
  by_cases h60 : 60 < parts.length
  · have hd : decide ((60 : Int) < (parts.length : Int)) = true := by simp; omega
    go_enter Tryd.func6, Tryd.ntmps6
    go_wp2_with fail
    refine (awake_calls _ tabs).mono ?_
    rintro e w1 ⟨rfl, hb1⟩
    have t1 := tabs.below' hb1
    go_wp2_with fail
    refine (awake_calls _ t1).mono ?_
    rintro e w2 ⟨rfl, hb2⟩
    go_wp2
    go_ret
    exact ⟨rfl, hb1.trans (hb2.mono hb1.size)⟩
  · have hd : decide ((60 : Int) < (parts.length : Int)) = false := by simp; omega
    go_enter Tryd.func6, Tryd.ntmps6
    go_wp2_with fail
    refine (awake_calls _ tabs).mono ?_
    rintro e w1 ⟨rfl, hb1⟩
    have t1 := tabs.below' hb1
    go_wp2_with fail
    refine (begin_calls _ t1).mono ?_
    rintro e w2 ⟨rfl, hb2⟩
    have hb2' : Below w.heap.size w w2 := hb1.trans (hb2.mono hb1.size)
    have hi0 : (Tryd.prog.info? 37).map (·.size) = some pBegin.cells.size := by show _ = some 10; kernel_rfl
    have ho0 := St.oneCell pBegin
    clear hb1 t1 hb2
    go_wp2_with (refine wpList_store_row rfl 37 (.tmp 4) (.tmp 13) rfl w2.heap.size _ rfl rfl 37 _ (al1 _ _) hi0 rfl ho0 ?_)
    have q1 := setRow_heap _ _ _ pBegin.cells _ _ (al1 w2 (.cells (St.mk ⟨0, 0, 0, 0, 0, 0, 0, 0⟩ [] 0).cells 37))
    have hb3 := below_setRow (hb2'.alloc hb2'.size (.cells (St.mk ⟨0, 0, 0, 0, 0, 0, 0, 0⟩ [] 0).cells 37)) hb2'.size pBegin.cells
    have hz3 := hb2'.size
    have hz4 : ((w2.alloc (.cells (St.mk ⟨0, 0, 0, 0, 0, 0, 0, 0⟩ [] 0).cells 37)).setRow w2.heap.size pBegin.cells).heap.size = w2.heap.size + 1 := by simp
    have HQ1 := hide q1
    have HB3 := hide hb3
    have HZ4 := hide hz4
    clear q1 hb3 hb2' hi0 ho0 hz4
    go_loopw [3, 16] (fun al i wr => ∃ k : Nat, k ≤ parts.length ∧ i = .int .i64 k ∧ al = .string (str (parts.take k).flatten) ∧ Hid (∀ j, j < k → (parts.getD j []).length ≤ 2000) ∧ Below w.heap.size w wr ∧ w2.heap.size < wr.heap.size ∧ wr.heap[w2.heap.size]? = some (.cells ((parts.take k).foldl pAdd pBegin).cells 37 (0, 0))) (fun _ i _ => parts.length - (intOf i).toNat)
    case atStart => exact ⟨0, by omega, rfl, rfl, hide (fun j hj => by omega), unhide HB3, by rw [setRow_size]; simp, unhide HQ1⟩
    case round =>
      clear HB3 HQ1 HZ4
      obtain ⟨k, hk, rfl, rfl, h2k, hb, hz, q1⟩ := hrel
      generalize hBs : w2.heap.size = Bs at *
      clear hBs
      have hflat := flat_le parts k (unhide h2k) hk
      by_cases hlk : k < parts.length
      · have hdk : decide ((k : Int) < (parts.length : Int)) = true := by simp; omega
        obtain ⟨b, o, hix, hblt, hc⟩ := strs_index w a cap parts hs k hlk
        have c : wr.cell? ⟨b, o, none⟩ = some (.string (str (parts.getD k []))) := by rw [hb.cell (p := ⟨b, o, none⟩) hblt]; exact hc
        have hfold := foldl_take_succ pAdd pBegin parts k [] hlk
        have hcat : (parts.take (k + 1)).flatten = (parts.take k).flatten ++ parts.getD k [] := by rw [take_snoc' parts k [] hlk]; simp
        have hpk : (parts.getD k []).length ≤ maxLen := by
          rw [List.getD_eq_getElem?_getD, List.getElem?_eq_getElem hlk]; exact hlen _ (List.getElem_mem _)
        have hrest := fold_rest (parts.take k)
        have tb := tabs.below hb (Nat.le_refl _)
        have h2k' : ∀ n, (parts.getD k []).length = n → n ≤ 2000 → ∀ j, j < k + 1 → (parts.getD j []).length ≤ 2000 := fun n hn' hn2 j hj => by
          by_cases e : j = k
          · subst e; omega
          · exact unhide h2k j (by omega)
        have H2k := hide h2k'
        generalize hpt : parts.getD k [] = pt at *
        generalize hst : (parts.take k).foldl pAdd pBegin = st at *
        generalize hfl : (parts.take k).flatten = fl at *
        unfold maxLen at hpk
        have Hfold := hide hfold
        have Hcat := hide hcat
        have Hlen := hide hlen
        clear hpt hst hfl hfold hcat hc h2k' hlen
        by_cases h2000 : 2000 < pt.length
        · have hd2 : decide ((2000 : Int) < (pt.length : Int)) = true := by simp; omega
          go_wp2_with fail
          refine (awake_calls _ tb).mono ?_
          rintro e w3 ⟨rfl, hb3⟩
          go_wp2
          go_ret
          exact ⟨rfl, hb.trans (hb3.mono hb.size)⟩
        · have hd2 : decide ((2000 : Int) < (pt.length : Int)) = false := by simp; omega
          have hi1 : (Tryd.prog.info? 37).map (·.size) = some st.cells.size := by show _ = some 10; kernel_rfl
          have ea := append_str fl pt
          have n1 : ¬ 9223372036854775807 < fl.length + pt.length := by omega
          go_wp2_with (refine wpList_load_row rfl 37 (.tmp 4) rfl Bs rfl 37 _ (0, 0) _ q1 Tryd.underlying37 rfl hi1 ?_)
          refine (add_calls st pt (by omega) _ tb).mono ?_
          rintro en w3 ⟨rfl, hb3⟩
          have q1' := Below.at hb3 hz q1
          have z3 := hb3.size
          have hi2 : (Tryd.prog.info? 37).map (·.size) = some (pAdd st pt).cells.size := by show _ = some 10; kernel_rfl
          have ho2 := St.oneCell (pAdd st pt)
          go_wp2_with (refine wpList_store_row rfl 37 (.tmp 4) (.tmp 29) rfl Bs _ rfl rfl 37 _ q1' hi2 rfl ho2 ?_)
          go_roundw
          case rel =>
            refine ⟨k + 1, by omega, by go_num, by rw [unhide Hcat], hide (unhide H2k _ rfl (by omega)), below_setRow (hb.trans (hb3.mono hb.size)) hz3 _, by rw [setRow_size]; omega, ?_⟩
            rw [unhide Hfold]; exact setRow_heap _ _ _ _ _ _ q1'
          case measure => simp [intOf]; omega
      · have hdk : decide ((k : Int) < (parts.length : Int)) = false := by simp; omega
        obtain rfl : k = parts.length := by omega
        rw [List.take_length] at q1 hflat
        rw [List.take_length]
        have hsum := pSum_flatten parts
        have hall : ∀ p ∈ parts, p.length ≤ 70368744177664 := fun p hp => by
          obtain ⟨j, hj, rfl⟩ := List.getElem_of_mem hp
          have := unhide h2k j hj
          rw [List.getD_eq_getElem?_getD, List.getElem?_eq_getElem hj] at this
          simp at this; omega
        have hrest := fold_rest parts
        have hendv : pEnd (parts.foldl pAdd pBegin) = pSum parts := rfl
        have tb := tabs.below hb (Nat.le_refl _)
        have hs' := hs.below hb (Nat.le_refl _)
        generalize hfl : parts.flatten = fl at *
        generalize hst : parts.foldl pAdd pBegin = st at *
        have hx := pSum_length [fl]
        generalize hX : pSum [fl] = X at *
        have Hawk : Hid (∀ w3, Below wr.heap.size wr w3 → Calls Tryd.prog 14 #[] w3 fun e w' => e = .returned (.bool true) ∧ Below wr.heap.size wr w' ∧ Below w3.heap.size w3 w') := fun w3 h3 => by
          refine (awake_calls _ (tb.below' h3)).mono ?_
          rintro en w' ⟨rfl, hb⟩
          exact ⟨rfl, h3.trans (hb.mono h3.size), hb⟩
        have Hsum1 : Hid (∀ w3, Below wr.heap.size wr w3 → Calls Tryd.prog 17 #[.slice a parts.length cap] w3 fun e w' => e = .returned (.agg (bc X)) ∧ Below wr.heap.size wr w' ∧ Below w3.heap.size w3 w') := fun w3 h3 => by
          refine (sum_calls parts hall (by omega) a cap _ (hs'.below h3 (Nat.le_refl _)) (tb.below' h3)).mono ?_
          rintro en w' ⟨rfl, hb⟩
          rw [hsum]
          exact ⟨rfl, h3.trans (hb.mono h3.size), hb⟩
        have Hsum2 : Hid (∀ w3 g, Below wr.heap.size wr w3 → w3.heap[g]? = some (.cells #[.string (str fl)] 9 (0, 0)) → Calls Tryd.prog 17 #[.slice (some ⟨g, 0, none⟩) 1 1] w3 fun e w' => e = .returned (.agg (bc X)) ∧ Below wr.heap.size wr w' ∧ Below w3.heap.size w3 w') := fun w3 g h3 hg => by
          refine (sum_one fl (by omega) g 1 _ _ _ hg (tb.below' h3)).mono ?_
          rintro en w' ⟨rfl, hb⟩
          rw [hX]
          exact ⟨rfl, h3.trans (hb.mono h3.size), hb⟩
        obtain ⟨⟨s0, s1, s2, s3, s4, s5, s6, s7⟩, rest, count⟩ := st
        have hrest : rest.length < 64 := hrest
        have Hend : Hid (∀ w3, Below wr.heap.size wr w3 → Calls Tryd.prog 23 #[.agg #[.int .u32 (s0.toNat : Int), .int .u32 (s1.toNat : Int), .int .u32 (s2.toNat : Int), .int .u32 (s3.toNat : Int), .int .u32 (s4.toNat : Int), .int .u32 (s5.toNat : Int), .int .u32 (s6.toNat : Int), .int .u32 (s7.toNat : Int), .string (str rest), .int .u64 (count.toNat : Int)]] w3 fun e w' => e = .returned (.agg (bc X)) ∧ Below wr.heap.size wr w' ∧ Below w3.heap.size w3 w') := fun w3 h3 => by
          refine (end_calls ⟨⟨s0, s1, s2, s3, s4, s5, s6, s7⟩, rest, count⟩ (by show rest.length ≤ _; omega) _ (tb.below' h3)).mono ?_
          rintro en w' ⟨rfl, hb⟩
          rw [hendv, hsum]
          exact ⟨rfl, h3.trans (hb.mono h3.size), hb⟩
        have Hadd : Hid (∀ w3, Below wr.heap.size wr w3 → Calls Tryd.prog 21 #[.agg #[.int .u32 (s0.toNat : Int), .int .u32 (s1.toNat : Int), .int .u32 (s2.toNat : Int), .int .u32 (s3.toNat : Int), .int .u32 (s4.toNat : Int), .int .u32 (s5.toNat : Int), .int .u32 (s6.toNat : Int), .int .u32 (s7.toNat : Int), .string (str rest), .int .u64 (count.toNat : Int)], .string ⟨#[]⟩] w3 fun e w' => e = .returned (.agg #[.int .u32 (s0.toNat : Int), .int .u32 (s1.toNat : Int), .int .u32 (s2.toNat : Int), .int .u32 (s3.toNat : Int), .int .u32 (s4.toNat : Int), .int .u32 (s5.toNat : Int), .int .u32 (s6.toNat : Int), .int .u32 (s7.toNat : Int), .string (str rest), .int .u64 (count.toNat : Int)]) ∧ Below wr.heap.size wr w' ∧ Below w3.heap.size w3 w') := fun w3 h3 => by
          refine (add_calls ⟨⟨s0, s1, s2, s3, s4, s5, s6, s7⟩, rest, count⟩ [] (by show rest.length + 0 ≤ _; omega) _ (tb.below' h3)).mono ?_
          rintro en w' ⟨rfl, hb⟩
          rw [pAdd_nil _ hrest]
          exact ⟨rfl, h3.trans (hb.mono h3.size), hb⟩
        have eq1 := digest_eql X hx
        have eq2 : ∀ w, (binOp .eql 37 (.agg #[.int .u32 (s0.toNat : Int), .int .u32 (s1.toNat : Int), .int .u32 (s2.toNat : Int), .int .u32 (s3.toNat : Int), .int .u32 (s4.toNat : Int), .int .u32 (s5.toNat : Int), .int .u32 (s6.toNat : Int), .int .u32 (s7.toNat : Int), .string (str rest), .int .u64 (count.toNat : Int)]) (.agg #[.int .u32 (s0.toNat : Int), .int .u32 (s1.toNat : Int), .int .u32 (s2.toNat : Int), .int .u32 (s3.toNat : Int), .int .u32 (s4.toNat : Int), .int .u32 (s5.toNat : Int), .int .u32 (s6.toNat : Int), .int .u32 (s7.toNat : Int), .string (str rest), .int .u64 (count.toNat : Int)])).run Tryd.prog w = .ok (.bool true) w := state_eql ⟨⟨s0, s1, s2, s3, s4, s5, s6, s7⟩, rest, count⟩ (by show rest.length ≤ maxLen; unfold maxLen; omega)
        have HS : Hid (∀ w', Below wr.heap.size wr w' → w'.cell? ⟨Bs, 0, none⟩ = some (.int .u32 (s0.toNat : Int)) ∧ w'.cell? ⟨Bs, 1, none⟩ = some (.int .u32 (s1.toNat : Int)) ∧ w'.cell? ⟨Bs, 2, none⟩ = some (.int .u32 (s2.toNat : Int)) ∧ w'.cell? ⟨Bs, 3, none⟩ = some (.int .u32 (s3.toNat : Int)) ∧ w'.cell? ⟨Bs, 4, none⟩ = some (.int .u32 (s4.toNat : Int)) ∧ w'.cell? ⟨Bs, 5, none⟩ = some (.int .u32 (s5.toNat : Int)) ∧ w'.cell? ⟨Bs, 6, none⟩ = some (.int .u32 (s6.toNat : Int)) ∧ w'.cell? ⟨Bs, 7, none⟩ = some (.int .u32 (s7.toNat : Int)) ∧ w'.cell? ⟨Bs, 8, none⟩ = some (.string (str rest)) ∧ w'.cell? ⟨Bs, 9, none⟩ = some (.int .u64 (count.toNat : Int))) := fun w' hw => by
          have hc := fun o => hw.cell (p := ⟨Bs, o, none⟩) hz
          simp only [hc]
          exact ⟨cell_of_row _ _ _ _ _ _ q1, cell_of_row _ _ _ _ _ _ q1, cell_of_row _ _ _ _ _ _ q1, cell_of_row _ _ _ _ _ _ q1, cell_of_row _ _ _ _ _ _ q1, cell_of_row _ _ _ _ _ _ q1, cell_of_row _ _ _ _ _ _ q1, cell_of_row _ _ _ _ _ _ q1, cell_of_row _ _ _ _ _ _ q1, cell_of_row _ _ _ _ _ _ q1⟩
        clear hfl hst hX hsum hendv hall h2k hs' tb hflat hrest hlen q1 hx
        go_wp2_with fail
        go_region_held3 (fun w' => w'.cell? ⟨Bs, 0, none⟩ = some (.int .u32 (s0.toNat : Int)) ∧ w'.cell? ⟨Bs, 1, none⟩ = some (.int .u32 (s1.toNat : Int)) ∧ w'.cell? ⟨Bs, 2, none⟩ = some (.int .u32 (s2.toNat : Int)) ∧ w'.cell? ⟨Bs, 3, none⟩ = some (.int .u32 (s3.toNat : Int)) ∧ w'.cell? ⟨Bs, 4, none⟩ = some (.int .u32 (s4.toNat : Int)) ∧ w'.cell? ⟨Bs, 5, none⟩ = some (.int .u32 (s5.toNat : Int)) ∧ w'.cell? ⟨Bs, 6, none⟩ = some (.int .u32 (s6.toNat : Int)) ∧ w'.cell? ⟨Bs, 7, none⟩ = some (.int .u32 (s7.toNat : Int)) ∧ w'.cell? ⟨Bs, 8, none⟩ = some (.string (str rest)) ∧ w'.cell? ⟨Bs, 9, none⟩ = some (.int .u64 (count.toNat : Int)))
          (exact unhide HS _ (by (repeat' (first | with_reducible assumption | with_reducible exact Below.refl _ _ | with_reducible refine Below.drew ?_ | with_reducible refine Below.alloc ?_ ?_ _ | with_reducible exact Nat.le_refl _ | with_reducible exact Below.size (by with_reducible assumption)))))
          (first
            | (go_at_call 14; refine (unhide Hawk _ ?_).mono ?_; (repeat' (first | with_reducible assumption | with_reducible exact Below.refl _ _ | with_reducible refine Below.drew ?_ | with_reducible refine Below.alloc ?_ ?_ _ | with_reducible exact Nat.le_refl _ | with_reducible exact Below.size (by with_reducible assumption))); rintro e w' ⟨rfl, hbb, hbc⟩; clear hbc)
            | (go_at_call_of 17 (Value.slice a parts.length cap); refine (unhide Hsum1 _ ?_).mono ?_; (repeat' (first | with_reducible assumption | with_reducible exact Below.refl _ _ | with_reducible refine Below.drew ?_ | with_reducible refine Below.alloc ?_ ?_ _ | with_reducible exact Nat.le_refl _ | with_reducible exact Below.size (by with_reducible assumption))); rintro e w' ⟨rfl, hbb, hbc⟩; obtain ⟨hk, hkf, hz2, hh⟩ := alloc_kept hbc; clear hk hkf hbc)
            | (go_at_call_of 17 (Value.slice a parts.length cap); refine (unhide Hsum1 _ ?_).mono ?_; (repeat' (first | with_reducible assumption | with_reducible exact Below.refl _ _ | with_reducible refine Below.drew ?_ | with_reducible refine Below.alloc ?_ ?_ _ | with_reducible exact Nat.le_refl _ | with_reducible exact Below.size (by with_reducible assumption))); rintro e w' ⟨rfl, hbb, hbc⟩; clear hbc)
            | (go_at_call 23; refine (unhide Hend _ ?_).mono ?_; (repeat' (first | with_reducible assumption | with_reducible exact Below.refl _ _ | with_reducible refine Below.drew ?_ | with_reducible refine Below.alloc ?_ ?_ _ | with_reducible exact Nat.le_refl _ | with_reducible exact Below.size (by with_reducible assumption))); rintro e w' ⟨rfl, hbb, hbc⟩; obtain ⟨hk, hkf, hz2, hh⟩ := alloc_kept hbc; clear hk hkf hbc)
            | (go_at_call 23; refine (unhide Hend _ ?_).mono ?_; (repeat' (first | with_reducible assumption | with_reducible exact Below.refl _ _ | with_reducible refine Below.drew ?_ | with_reducible refine Below.alloc ?_ ?_ _ | with_reducible exact Nat.le_refl _ | with_reducible exact Below.size (by with_reducible assumption))); rintro e w' ⟨rfl, hbb, hbc⟩; clear hbc)
            | (go_at_call 17; refine (unhide Hsum2 _ _ ?_ ?_).mono ?_; (repeat' (first | with_reducible assumption | with_reducible exact Below.refl _ _ | with_reducible refine Below.drew ?_ | with_reducible refine Below.alloc ?_ ?_ _ | with_reducible exact Nat.le_refl _ | with_reducible exact Below.size (by with_reducible assumption))); (first | exact al1 _ _ | exact unhide hh); rintro e w' ⟨rfl, hbb, hbc⟩; clear hbc)
            | (go_at_call 21; refine (unhide Hadd _ ?_).mono ?_; (repeat' (first | with_reducible assumption | with_reducible exact Below.refl _ _ | with_reducible refine Below.drew ?_ | with_reducible refine Below.alloc ?_ ?_ _ | with_reducible exact Nat.le_refl _ | with_reducible exact Below.size (by with_reducible assumption))); rintro e w' ⟨rfl, hbb, hbc⟩; clear hbc))
        all_goals go_wp2
        all_goals go_ret
        all_goals refine ⟨rfl, hb.trans (Below.mono ?_ hb.size)⟩
        all_goals (repeat' (first | with_reducible assumption | with_reducible exact Below.refl _ _ | with_reducible refine Below.drew ?_ | with_reducible refine Below.alloc ?_ ?_ _ | with_reducible exact Nat.le_refl _ | with_reducible exact Below.size (by with_reducible assumption)))
end Go.Proofs.YtfobcchiakjhgaaDoor
