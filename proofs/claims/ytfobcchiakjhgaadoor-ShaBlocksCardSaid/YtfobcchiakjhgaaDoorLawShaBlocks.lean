/-
  THE WALK OF THE LAW ShaBlocks: whatever the words and the block, it returns true, and nothing that was there has turned.
-/
import Derived.Test.YtfobcchiakjhgaaDoorShaLaw
import Derived.Test.YtfobcchiakjhgaaDoorRefConv
import Derived.Deep.RegionHeld
namespace Go.Proofs.YtfobcchiakjhgaaDoor
open Go.RowKit
set_option linter.unusedSimpArgs false
set_option linter.unusedVariables false

set_option maxHeartbeats 4000000 in
set_option maxRecDepth 100000 in
theorem shaBlocks_walk (st : S8) (l : List UInt8) (hl : l.length ≤ maxLen) (w : World) (tabs : Tabs w) :
    Calls Tryd.prog 3 #[.agg st.cells, .string (str l)] w fun e w' => e = .returned (.bool true) ∧ Below w.heap.size w w' := by
  unfold maxLen at hl
  generalize hP : pBlock st l = PB
  obtain ⟨a, b, c, d, e, f, g, h⟩ := st
  have hargs : (S8.mk a b c d e f g h).cells = #[.int .u32 (a.toNat : Int), .int .u32 (b.toNat : Int), .int .u32 (c.toNat : Int), .int .u32 (d.toNat : Int), .int .u32 (e.toNat : Int), .int .u32 (f.toNat : Int), .int .u32 (g.toNat : Int), .int .u32 (h.toNat : Int)] := rfl
  have hb0 : Below w.heap.size w (w.alloc (.cells #[.int .u32 (a.toNat : Int), .int .u32 (b.toNat : Int), .int .u32 (c.toNat : Int), .int .u32 (d.toNat : Int), .int .u32 (e.toNat : Int), .int .u32 (f.toNat : Int), .int .u32 (g.toNat : Int), .int .u32 (h.toNat : Int)] 23)) := (Below.refl _ _).alloc (Nat.le_refl _) _
  by_cases h1000 : 1000 < l.length
  · have hd : decide ((1000 : Int) < (l.length : Int)) = true := by simp; omega
    rw [hargs]
    clear hargs
    go_enter Tryd.func3, Tryd.ntmps3
    go_wp2_with fail
    refine (awake_calls _ (tabs.below' hb0)).mono ?_
    rintro en w1 ⟨rfl, hb1⟩
    have hb1' := hb0.trans (hb1.mono hb0.size)
    clear hb1
    go_wp2_with fail
    refine (awake_calls _ (tabs.below' hb1')).mono ?_
    rintro en w2 ⟨rfl, hb2⟩
    go_wp2
    go_ret
    exact ⟨rfl, hb1'.trans (hb2.mono hb1'.size)⟩
  · have hd : decide ((1000 : Int) < (l.length : Int)) = false := by simp; omega
    have HB : Hid (∀ w, Tabs w → Calls Tryd.prog 15 #[.agg #[.int .u32 (a.toNat : Int), .int .u32 (b.toNat : Int), .int .u32 (c.toNat : Int), .int .u32 (d.toNat : Int), .int .u32 (e.toNat : Int), .int .u32 (f.toNat : Int), .int .u32 (g.toNat : Int), .int .u32 (h.toNat : Int)], .string (str l)] w fun e w' => e = .returned (.agg PB.cells) ∧ Below w.heap.size w w') := fun w ht => by
      rw [← hargs, ← hP]; exact block_any _ l (by unfold maxLen; omega) w ht
    have HR : Hid (∀ w gb cap, l.length ≤ cap → gb < w.heap.size → Bytes w gb 0 l → Calls Tryd.prog 16 #[.agg #[.int .u32 (a.toNat : Int), .int .u32 (b.toNat : Int), .int .u32 (c.toNat : Int), .int .u32 (d.toNat : Int), .int .u32 (e.toNat : Int), .int .u32 (f.toNat : Int), .int .u32 (g.toNat : Int), .int .u32 (h.toNat : Int)], .slice (some ⟨gb, 0, none⟩) l.length cap] w fun e w' => e = .returned (.agg PB.cells) ∧ Below w.heap.size w w') := fun w gb cap h1 h2 h3 => by
      rw [← hargs, ← hP]; exact rblock_any _ gb 0 cap l h1 (by unfold maxLen; omega) w h2 h3
    rw [hargs]
    clear hargs hP
    go_enter Tryd.func3, Tryd.ntmps3
    go_wp2_with fail
    refine (awake_calls _ (tabs.below' hb0)).mono ?_
    rintro en wr ⟨rfl, hb1⟩
    have q1 := Below.at hb1 (by simp) (al1 w (.cells #[.int .u32 (a.toNat : Int), .int .u32 (b.toNat : Int), .int .u32 (c.toNat : Int), .int .u32 (d.toNat : Int), .int .u32 (e.toNat : Int), .int .u32 (f.toNat : Int), .int .u32 (g.toNat : Int), .int .u32 (h.toNat : Int)] 23))
    have hz : w.heap.size < wr.heap.size := by have := hb1.size; simp at this; omega
    have hb := hb0.trans (hb1.mono hb0.size)
    clear hb0 hb1
    have tb := tabs.below' hb
    have Hawk : Hid (∀ w3, Below wr.heap.size wr w3 → Calls Tryd.prog 14 #[] w3 fun e w' => e = .returned (.bool true) ∧ Below wr.heap.size wr w' ∧ Below w3.heap.size w3 w') := fun w3 h3 => by
      refine (awake_calls _ (tb.below' h3)).mono ?_
      rintro en w' ⟨rfl, hb⟩
      exact ⟨rfl, h3.trans (hb.mono h3.size), hb⟩
    have Hblk : Hid (∀ w3, Below wr.heap.size wr w3 → Calls Tryd.prog 15 #[.agg #[.int .u32 (a.toNat : Int), .int .u32 (b.toNat : Int), .int .u32 (c.toNat : Int), .int .u32 (d.toNat : Int), .int .u32 (e.toNat : Int), .int .u32 (f.toNat : Int), .int .u32 (g.toNat : Int), .int .u32 (h.toNat : Int)], .string (str l)] w3 fun e w' => e = .returned (.agg PB.cells) ∧ Below wr.heap.size wr w' ∧ Below w3.heap.size w3 w') := fun w3 h3 => by
      refine (unhide HB _ (tb.below' h3)).mono ?_
      rintro en w' ⟨rfl, hb⟩
      exact ⟨rfl, h3.trans (hb.mono h3.size), hb⟩
    have Href : Hid (∀ w3 gb cap, Below wr.heap.size wr w3 → l.length ≤ cap → Bytes w3 gb 0 l ∧ gb < w3.heap.size → Calls Tryd.prog 16 #[.agg #[.int .u32 (a.toNat : Int), .int .u32 (b.toNat : Int), .int .u32 (c.toNat : Int), .int .u32 (d.toNat : Int), .int .u32 (e.toNat : Int), .int .u32 (f.toNat : Int), .int .u32 (g.toNat : Int), .int .u32 (h.toNat : Int)], .slice (some ⟨gb, 0, none⟩) l.length cap] w3 fun e w' => e = .returned (.agg PB.cells) ∧ Below wr.heap.size wr w' ∧ Below w3.heap.size w3 w') := fun w3 gb cap h3 h1 h2 => by
      refine (unhide HR _ gb cap h1 h2.2 h2.1).mono ?_
      rintro en w' ⟨rfl, hb⟩
      exact ⟨rfl, h3.trans (hb.mono h3.size), hb⟩
    have eq1 : ∀ w, (binOp .eql 23 (.agg PB.cells) (.agg PB.cells)).run Tryd.prog w = .ok (.bool true) w := words_eql PB.list rfl
    have hcv := conv_run l
    have HS : Hid (∀ w', Below wr.heap.size wr w' → w'.cell? ⟨w.heap.size, 0, none⟩ = some (.int .u32 (a.toNat : Int)) ∧ w'.cell? ⟨w.heap.size, 1, none⟩ = some (.int .u32 (b.toNat : Int)) ∧ w'.cell? ⟨w.heap.size, 2, none⟩ = some (.int .u32 (c.toNat : Int)) ∧ w'.cell? ⟨w.heap.size, 3, none⟩ = some (.int .u32 (d.toNat : Int)) ∧ w'.cell? ⟨w.heap.size, 4, none⟩ = some (.int .u32 (e.toNat : Int)) ∧ w'.cell? ⟨w.heap.size, 5, none⟩ = some (.int .u32 (f.toNat : Int)) ∧ w'.cell? ⟨w.heap.size, 6, none⟩ = some (.int .u32 (g.toNat : Int)) ∧ w'.cell? ⟨w.heap.size, 7, none⟩ = some (.int .u32 (h.toNat : Int))) := fun w' hw => by
      have hc := fun o => hw.cell (p := ⟨w.heap.size, o, none⟩) hz
      simp only [hc]
      exact ⟨cell_of_row _ _ _ _ _ _ q1, cell_of_row _ _ _ _ _ _ q1, cell_of_row _ _ _ _ _ _ q1, cell_of_row _ _ _ _ _ _ q1, cell_of_row _ _ _ _ _ _ q1, cell_of_row _ _ _ _ _ _ q1, cell_of_row _ _ _ _ _ _ q1, cell_of_row _ _ _ _ _ _ q1⟩
    clear q1 tb HB HR
    go_wp2_with fail
    go_region_held (fun w' => w'.cell? ⟨w.heap.size, 0, none⟩ = some (.int .u32 (a.toNat : Int)) ∧ w'.cell? ⟨w.heap.size, 1, none⟩ = some (.int .u32 (b.toNat : Int)) ∧ w'.cell? ⟨w.heap.size, 2, none⟩ = some (.int .u32 (c.toNat : Int)) ∧ w'.cell? ⟨w.heap.size, 3, none⟩ = some (.int .u32 (d.toNat : Int)) ∧ w'.cell? ⟨w.heap.size, 4, none⟩ = some (.int .u32 (e.toNat : Int)) ∧ w'.cell? ⟨w.heap.size, 5, none⟩ = some (.int .u32 (f.toNat : Int)) ∧ w'.cell? ⟨w.heap.size, 6, none⟩ = some (.int .u32 (g.toNat : Int)) ∧ w'.cell? ⟨w.heap.size, 7, none⟩ = some (.int .u32 (h.toNat : Int)))
      (exact unhide HS _ (by (repeat' (first | with_reducible assumption | with_reducible exact Below.refl _ _ | with_reducible refine Below.drew ?_ | with_reducible refine bworld_below _ ?_ ?_ | with_reducible refine Below.alloc ?_ ?_ _ | with_reducible exact Nat.le_refl _ | with_reducible exact Below.size (by with_reducible assumption)))))
      (first
        | (go_at_call 14; refine (unhide Hawk _ ?_).mono ?_; (repeat' (first | with_reducible assumption | with_reducible exact Below.refl _ _ | with_reducible refine Below.drew ?_ | with_reducible refine bworld_below _ ?_ ?_ | with_reducible refine Below.alloc ?_ ?_ _ | with_reducible exact Nat.le_refl _ | with_reducible exact Below.size (by with_reducible assumption))); rintro e w' ⟨rfl, hbb, hbc⟩; clear hbc)
        | (go_at_call 15; refine (unhide Hblk _ ?_).mono ?_; (repeat' (first | with_reducible assumption | with_reducible exact Below.refl _ _ | with_reducible refine Below.drew ?_ | with_reducible refine bworld_below _ ?_ ?_ | with_reducible refine Below.alloc ?_ ?_ _ | with_reducible exact Nat.le_refl _ | with_reducible exact Below.size (by with_reducible assumption))); rintro e w' ⟨rfl, hbb, hbc⟩; obtain ⟨hk, hkz⟩ := bworld_kept hbc; clear hbc)
        | (go_at_call 15; refine (unhide Hblk _ ?_).mono ?_; (repeat' (first | with_reducible assumption | with_reducible exact Below.refl _ _ | with_reducible refine Below.drew ?_ | with_reducible refine bworld_below _ ?_ ?_ | with_reducible refine Below.alloc ?_ ?_ _ | with_reducible exact Nat.le_refl _ | with_reducible exact Below.size (by with_reducible assumption))); rintro e w' ⟨rfl, hbb, hbc⟩; clear hbc)
        | (go_at_call 16; refine (unhide Href _ _ _ ?_ (bcap_ge _ _) ?_).mono ?_; (repeat' (first | with_reducible assumption | with_reducible exact Below.refl _ _ | with_reducible refine Below.drew ?_ | with_reducible refine bworld_below _ ?_ ?_ | with_reducible refine Below.alloc ?_ ?_ _ | with_reducible exact Nat.le_refl _ | with_reducible exact Below.size (by with_reducible assumption))); (first | exact ⟨bworld_bytes _ _, by rw [bworld_size]; exact Nat.lt_succ_self _⟩ | exact ⟨unhide hk, hkz⟩); rintro e w' ⟨rfl, hbb, hbc⟩; clear hbc))
    all_goals go_wp2
    all_goals go_ret
    all_goals refine ⟨rfl, hb.trans (Below.mono ?_ hb.size)⟩
    all_goals (repeat' (first | with_reducible assumption | with_reducible exact Below.refl _ _ | with_reducible refine Below.drew ?_ | with_reducible refine bworld_below _ ?_ ?_ | with_reducible refine Below.alloc ?_ ?_ _ | with_reducible exact Nat.le_refl _ | with_reducible exact Below.size (by with_reducible assumption)))
end Go.Proofs.YtfobcchiakjhgaaDoor
