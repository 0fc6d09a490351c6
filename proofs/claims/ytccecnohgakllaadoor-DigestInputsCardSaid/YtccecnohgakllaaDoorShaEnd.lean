/-
  WHAT sha's End RETURNS.
-/
import Derived.Test.YtccecnohgakllaaDoorShaPad
import Derived.Deep.RegionHeld3
import Derived.Deep.DeepCutAuto
namespace Go.Proofs.YtccecnohgakllaaDoor
open Go.RowKit
set_option linter.unusedSimpArgs false
set_option linter.unusedVariables false

/-- Words as bytes, the highest byte of each first. -/
def wordBytes (x : BitVec 32) : List UInt8 := [UInt8.ofNat (x.toNat / 2 ^ 24), UInt8.ofNat (x.toNat / 2 ^ 16), UInt8.ofNat (x.toNat / 2 ^ 8), UInt8.ofNat (x.toNat / 2 ^ 0)]
def S8.bytes (s : S8) : List UInt8 := s.list.flatMap wordBytes
/-- The digest that a state ends in. -/
def pEnd (t : St) : List UInt8 := (pThrough t.s (t.rest ++ padBytes t.rest.length t.count)).1.bytes
theorem S8.bytes_length (s : S8) : s.bytes.length = 32 := rfl
theorem wordBytes_length (x : BitVec 32) : (wordBytes x).length = 4 := rfl
theorem wordBytes_at (x : BitVec 32) (j : Nat) (h : j < 4) : (wordBytes x).getD j 0 = UInt8.ofNat (x.toNat / 2 ^ (24 - 8 * j)) := by
  match j, h with
  | 0, _ => rfl
  | 1, _ => rfl
  | 2, _ => rfl
  | 3, _ => rfl
theorem flat_length (l : List (BitVec 32)) : (l.flatMap wordBytes).length = 4 * l.length := by
  induction l with
  | nil => rfl
  | cons x l ih => simp [ih, wordBytes_length]; omega
set_option maxHeartbeats 2000000 in
set_option maxRecDepth 100000 in
theorem end_calls (st : St) (hl : st.rest.length ≤ 140737488355000) (w : World) (tabs : Tabs w) :
    Calls Tryd.prog 29 #[.agg st.cells] w fun e w' => e = .returned (.agg (bc (pEnd st))) ∧ Below w.heap.size w w' := by
  obtain ⟨⟨a, b, c, d, e, f, g, h⟩, rest, count⟩ := st
  simp only [St.cells]
  have hl : rest.length ≤ 140737488355000 := hl
  have hpl := padBytes_length rest.length count
  have hn64 : noughts rest.length < 64 := Nat.mod_lt _ (by decide)
  generalize hpd : padBytes rest.length count = pd at *
  have ea := append_str rest pd
  have n1 : ¬ 9223372036854775807 < rest.length + pd.length := by omega
  have Hpd := hide hpd
  have hpb : pd.length ≤ 72 := by omega
  clear hpd hpl
  go_enter Tryd.func29, Tryd.ntmps29
  go_wp2
  have q0 := (al2 w (.cells (St.mk ⟨a, b, c, d, e, f, g, h⟩ rest count).cells 62) (.cells (bc (List.replicate 32 0)) 24)).1
  have q1 := (al2 w (.cells (St.mk ⟨a, b, c, d, e, f, g, h⟩ rest count).cells 62) (.cells (bc (List.replicate 32 0)) 24)).2
  have hb2 := bel2 w (.cells (St.mk ⟨a, b, c, d, e, f, g, h⟩ rest count).cells 62) (.cells (bc (List.replicate 32 0)) 24)
  have z2 : ((w.alloc (.cells (St.mk ⟨a, b, c, d, e, f, g, h⟩ rest count).cells 62)).alloc (.cells (bc (List.replicate 32 0)) 24)).heap.size = w.heap.size + 1 + 1 := by simp
  generalize hw2 : (w.alloc (.cells (St.mk ⟨a, b, c, d, e, f, g, h⟩ rest count).cells 62)).alloc (.cells (bc (List.replicate 32 0)) 24) = w2 at *
  change Code.wp _ _ _ _ ((w.alloc (.cells (St.mk ⟨a, b, c, d, e, f, g, h⟩ rest count).cells 62)).alloc (.cells (bc (List.replicate 32 0)) 24))
  rw [hw2]
  have c0 : w2.cell? ⟨w.heap.size, 0, none⟩ = some (.int .u32 (a.toNat : Int)) := cell_of_row _ _ _ _ _ _ q0
  have c1 : w2.cell? ⟨w.heap.size, 1, none⟩ = some (.int .u32 (b.toNat : Int)) := cell_of_row _ _ _ _ _ _ q0
  have c2 : w2.cell? ⟨w.heap.size, 2, none⟩ = some (.int .u32 (c.toNat : Int)) := cell_of_row _ _ _ _ _ _ q0
  have c3 : w2.cell? ⟨w.heap.size, 3, none⟩ = some (.int .u32 (d.toNat : Int)) := cell_of_row _ _ _ _ _ _ q0
  have c4 : w2.cell? ⟨w.heap.size, 4, none⟩ = some (.int .u32 (e.toNat : Int)) := cell_of_row _ _ _ _ _ _ q0
  have c5 : w2.cell? ⟨w.heap.size, 5, none⟩ = some (.int .u32 (f.toNat : Int)) := cell_of_row _ _ _ _ _ _ q0
  have c6 : w2.cell? ⟨w.heap.size, 6, none⟩ = some (.int .u32 (g.toNat : Int)) := cell_of_row _ _ _ _ _ _ q0
  have c7 : w2.cell? ⟨w.heap.size, 7, none⟩ = some (.int .u32 (h.toNat : Int)) := cell_of_row _ _ _ _ _ _ q0
  have c8 : w2.cell? ⟨w.heap.size, 8, none⟩ = some (.string (str rest)) := cell_of_row _ _ _ _ _ _ q0
  have c9 : w2.cell? ⟨w.heap.size, 9, none⟩ = some (.int .u64 (count.toNat : Int)) := cell_of_row _ _ _ _ _ _ q0
  generalize hT : pThrough ⟨a, b, c, d, e, f, g, h⟩ (rest ++ pd) = T
  obtain ⟨⟨r0, r1, r2, r3, r4, r5, r6, r7⟩, m⟩ := T
  have tb2 : Tabs w2 := tabs.below' hb2
  have hzB : w.heap.size < w2.heap.size := by omega
  have hpad : ∀ w3, Below w2.heap.size w2 w3 → Calls Tryd.prog 40 #[.int .i64 (rest.length : Int), .int .u64 (count.toNat : Int)] w3 fun e w' => e = .returned (.string (str pd)) ∧ Below w2.heap.size w2 w' ∧ Below w3.heap.size w3 w' := fun w3 h3 => by
    refine (padding_calls rest.length (by omega) count _).mono ?_
    rintro en w' ⟨rfl, hb⟩
    rw [unhide Hpd]; exact ⟨rfl, h3.trans (hb.mono h3.size), hb⟩
  have hth : ∀ w3, Below w2.heap.size w2 w3 → Calls Tryd.prog 38 #[.agg #[.int .u32 (a.toNat : Int), .int .u32 (b.toNat : Int), .int .u32 (c.toNat : Int), .int .u32 (d.toNat : Int), .int .u32 (e.toNat : Int), .int .u32 (f.toNat : Int), .int .u32 (g.toNat : Int), .int .u32 (h.toNat : Int)], .string (str (rest ++ pd))] w3 fun en w' => en = .returned (.tuple #[.agg #[.int .u32 (r0.toNat : Int), .int .u32 (r1.toNat : Int), .int .u32 (r2.toNat : Int), .int .u32 (r3.toNat : Int), .int .u32 (r4.toNat : Int), .int .u32 (r5.toNat : Int), .int .u32 (r6.toNat : Int), .int .u32 (r7.toNat : Int)], .string (str m)]) ∧ Below w2.heap.size w2 w' ∧ Below w3.heap.size w3 w' := fun w3 h3 => by
    refine (through_calls ⟨a, b, c, d, e, f, g, h⟩ (rest ++ pd) (by simp [maxLen]; omega) _ (tb2.below' h3)).mono ?_
    rintro en w' ⟨rfl, hb⟩
    rw [hT]; exact ⟨rfl, h3.trans (hb.mono h3.size), hb⟩
  have HT := hide hT
  have Q1 := hide q1
  have Hpad := hide hpad
  have Hth := hide hth
  have Hz2 := hide z2
  clear hT q0 q1 hw2 tb2 hpad hth z2
  go_cut [3, 4] (fun p s wc => ∃ gg : Nat, p = .pointer (some ⟨gg, 0, none⟩) ∧ s = .string (str m) ∧ wc.heap[gg]? = some (.cells #[.int .u32 (r0.toNat : Int), .int .u32 (r1.toNat : Int), .int .u32 (r2.toNat : Int), .int .u32 (r3.toNat : Int), .int .u32 (r4.toNat : Int), .int .u32 (r5.toNat : Int), .int .u32 (r6.toNat : Int), .int .u32 (r7.toNat : Int)] 59 (0, 0)) ∧ w2.heap.size ≤ gg ∧ Below w2.heap.size w2 wc)
  case first =>
    have HS : Hid (∀ w', Below w2.heap.size w2 w' → w'.cell? ⟨w.heap.size, 0, none⟩ = some (.int .u32 (a.toNat : Int)) ∧ w'.cell? ⟨w.heap.size, 1, none⟩ = some (.int .u32 (b.toNat : Int)) ∧ w'.cell? ⟨w.heap.size, 2, none⟩ = some (.int .u32 (c.toNat : Int)) ∧ w'.cell? ⟨w.heap.size, 3, none⟩ = some (.int .u32 (d.toNat : Int)) ∧ w'.cell? ⟨w.heap.size, 4, none⟩ = some (.int .u32 (e.toNat : Int)) ∧ w'.cell? ⟨w.heap.size, 5, none⟩ = some (.int .u32 (f.toNat : Int)) ∧ w'.cell? ⟨w.heap.size, 6, none⟩ = some (.int .u32 (g.toNat : Int)) ∧ w'.cell? ⟨w.heap.size, 7, none⟩ = some (.int .u32 (h.toNat : Int)) ∧ w'.cell? ⟨w.heap.size, 8, none⟩ = some (.string (str rest)) ∧ w'.cell? ⟨w.heap.size, 9, none⟩ = some (.int .u64 (count.toNat : Int))) := fun w' hw => by
      have hc := fun o => hw.cell (p := ⟨w.heap.size, o, none⟩) hzB
      simp only [hc]
      exact ⟨c0, c1, c2, c3, c4, c5, c6, c7, c8, c9⟩
    go_region_held3 (fun w' => w'.cell? ⟨w.heap.size, 0, none⟩ = some (.int .u32 (a.toNat : Int)) ∧ w'.cell? ⟨w.heap.size, 1, none⟩ = some (.int .u32 (b.toNat : Int)) ∧ w'.cell? ⟨w.heap.size, 2, none⟩ = some (.int .u32 (c.toNat : Int)) ∧ w'.cell? ⟨w.heap.size, 3, none⟩ = some (.int .u32 (d.toNat : Int)) ∧ w'.cell? ⟨w.heap.size, 4, none⟩ = some (.int .u32 (e.toNat : Int)) ∧ w'.cell? ⟨w.heap.size, 5, none⟩ = some (.int .u32 (f.toNat : Int)) ∧ w'.cell? ⟨w.heap.size, 6, none⟩ = some (.int .u32 (g.toNat : Int)) ∧ w'.cell? ⟨w.heap.size, 7, none⟩ = some (.int .u32 (h.toNat : Int)) ∧ w'.cell? ⟨w.heap.size, 8, none⟩ = some (.string (str rest)) ∧ w'.cell? ⟨w.heap.size, 9, none⟩ = some (.int .u64 (count.toNat : Int)))
      (exact unhide HS _ (by (repeat' (first | with_reducible assumption | with_reducible exact Below.refl _ _ | with_reducible refine Below.drew ?_ | with_reducible refine Below.alloc ?_ ?_ _ | with_reducible refine Below.setCell ?_ ?_ _ | with_reducible exact Nat.le_refl _ | with_reducible exact Below.size (by with_reducible assumption) | (show w2.heap.size ≤ _; simp only [World.size_alloc, World.size_drew, World.size_setCell]; omega)))))
      (first
        | (go_at_call 40; refine (unhide Hpad _ ?_).mono ?_; (repeat' (first | with_reducible assumption | with_reducible exact Below.refl _ _ | with_reducible refine Below.drew ?_ | with_reducible refine Below.alloc ?_ ?_ _ | with_reducible refine Below.setCell ?_ ?_ _ | with_reducible exact Nat.le_refl _ | with_reducible exact Below.size (by with_reducible assumption) | (show w2.heap.size ≤ _; simp only [World.size_alloc, World.size_drew, World.size_setCell]; omega))); rintro e w' ⟨rfl, hbb, hbc⟩; obtain ⟨hk, hkf, hz2, hh⟩ := alloc_kept_drew hbc; clear hbc)
        | (go_at_call 40; refine (unhide Hpad _ ?_).mono ?_; (repeat' (first | with_reducible assumption | with_reducible exact Below.refl _ _ | with_reducible refine Below.drew ?_ | with_reducible refine Below.alloc ?_ ?_ _ | with_reducible refine Below.setCell ?_ ?_ _ | with_reducible exact Nat.le_refl _ | with_reducible exact Below.size (by with_reducible assumption) | (show w2.heap.size ≤ _; simp only [World.size_alloc, World.size_drew, World.size_setCell]; omega))); rintro e w' ⟨rfl, hbb, hbc⟩; clear hbc)
        | (go_at_call 38; refine (unhide Hth _ ?_).mono ?_; (repeat' (first | with_reducible assumption | with_reducible exact Below.refl _ _ | with_reducible refine Below.drew ?_ | with_reducible refine Below.alloc ?_ ?_ _ | with_reducible refine Below.setCell ?_ ?_ _ | with_reducible exact Nat.le_refl _ | with_reducible exact Below.size (by with_reducible assumption) | (show w2.heap.size ≤ _; simp only [World.size_alloc, World.size_drew, World.size_setCell]; omega))); rintro e w' ⟨rfl, hbb, hbc⟩; have hk2 : ∀ o : Nat, w'.cell? ⟨w2.heap.size, o, none⟩ = (#[.int .u32 0, .int .u32 0, .int .u32 0, .int .u32 0, .int .u32 0, .int .u32 0, .int .u32 0, .int .u32 0] : Array Value)[o]? := fun o => (hbc.cell (p := ⟨w2.heap.size, o, none⟩) hz2).trans (hk o); have hkf2 : ∀ o : Nat, w'.frozen? ⟨w2.heap.size, o, none⟩ = false := fun o => (hbc.frozen (p := ⟨w2.heap.size, o, none⟩) hz2).trans (hkf o); have hh2 := hide ((hbc.block _ hz2).trans (unhide hh)); clear hk hkf hbc hh)
        | (go_at_call 38; refine (unhide Hth _ ?_).mono ?_; (repeat' (first | with_reducible assumption | with_reducible exact Below.refl _ _ | with_reducible refine Below.drew ?_ | with_reducible refine Below.alloc ?_ ?_ _ | with_reducible refine Below.setCell ?_ ?_ _ | with_reducible exact Nat.le_refl _ | with_reducible exact Below.size (by with_reducible assumption) | (show w2.heap.size ≤ _; simp only [World.size_alloc, World.size_drew, World.size_setCell]; omega))); rintro e w' ⟨rfl, hbb, hbc⟩; obtain ⟨hk, hkf, hz2, hh⟩ := alloc_kept hbc; clear hbc)
        | (go_at_call 38; refine (unhide Hth _ ?_).mono ?_; (repeat' (first | with_reducible assumption | with_reducible exact Below.refl _ _ | with_reducible refine Below.drew ?_ | with_reducible refine Below.alloc ?_ ?_ _ | with_reducible refine Below.setCell ?_ ?_ _ | with_reducible exact Nat.le_refl _ | with_reducible exact Below.size (by with_reducible assumption) | (show w2.heap.size ≤ _; simp only [World.size_alloc, World.size_drew, World.size_setCell]; omega))); rintro e w' ⟨rfl, hbb, hbc⟩; clear hbc))
    · go_wp2
      go_meet
      case rel => exact ⟨_, rfl, rfl, al1 _ _, by (repeat' (first | with_reducible assumption | with_reducible exact Below.refl _ _ | with_reducible refine Below.drew ?_ | with_reducible refine Below.alloc ?_ ?_ _ | with_reducible refine Below.setCell ?_ ?_ _ | with_reducible exact Nat.le_refl _ | with_reducible exact Below.size (by with_reducible assumption) | (show w2.heap.size ≤ _; simp only [World.size_alloc, World.size_drew, World.size_setCell]; omega))), by (repeat' (first | with_reducible assumption | with_reducible exact Below.refl _ _ | with_reducible refine Below.drew ?_ | with_reducible refine Below.alloc ?_ ?_ _ | with_reducible refine Below.setCell ?_ ?_ _ | with_reducible exact Nat.le_refl _ | with_reducible exact Below.size (by with_reducible assumption) | (show w2.heap.size ≤ _; simp only [World.size_alloc, World.size_drew, World.size_setCell]; omega)))⟩
    · go_wp2
      go_meet
      case rel =>
        refine ⟨_, rfl, rfl, ?_, by (repeat' (first | with_reducible assumption | with_reducible exact Below.refl _ _ | with_reducible refine Below.drew ?_ | with_reducible refine Below.alloc ?_ ?_ _ | with_reducible refine Below.setCell ?_ ?_ _ | with_reducible exact Nat.le_refl _ | with_reducible exact Below.size (by with_reducible assumption) | (show w2.heap.size ≤ _; simp only [World.size_alloc, World.size_drew, World.size_setCell]; omega))), by (repeat' (first | with_reducible assumption | with_reducible exact Below.refl _ _ | with_reducible refine Below.drew ?_ | with_reducible refine Below.alloc ?_ ?_ _ | with_reducible refine Below.setCell ?_ ?_ _ | with_reducible exact Nat.le_refl _ | with_reducible exact Below.size (by with_reducible assumption) | (show w2.heap.size ≤ _; simp only [World.size_alloc, World.size_drew, World.size_setCell]; omega)))⟩
        exact set8 _ _ _ _ _ _ _ _ _ _ _ _ _ _ _ _ _ _ _ (unhide hh)
    · go_wp2
      go_meet
      case rel =>
        refine ⟨_, rfl, rfl, ?_, by (repeat' (first | with_reducible assumption | with_reducible exact Below.refl _ _ | with_reducible refine Below.drew ?_ | with_reducible refine Below.alloc ?_ ?_ _ | with_reducible refine Below.setCell ?_ ?_ _ | with_reducible exact Nat.le_refl _ | with_reducible exact Below.size (by with_reducible assumption) | (show w2.heap.size ≤ _; simp only [World.size_alloc, World.size_drew, World.size_setCell]; omega))), by (repeat' (first | with_reducible assumption | with_reducible exact Below.refl _ _ | with_reducible refine Below.drew ?_ | with_reducible refine Below.alloc ?_ ?_ _ | with_reducible refine Below.setCell ?_ ?_ _ | with_reducible exact Nat.le_refl _ | with_reducible exact Below.size (by with_reducible assumption) | (show w2.heap.size ≤ _; simp only [World.size_alloc, World.size_drew, World.size_setCell]; omega)))⟩
        exact set8 _ _ _ _ _ _ _ _ _ _ _ _ _ _ _ _ _ _ _ (unhide hh2)
  case rest =>
    clear Hpad Hth c0 c1 c2 c3 c4 c5 c6 c7 c8 c9
    obtain ⟨gg, rfl, rfl, qg, hgg, hbw⟩ := hcut
    obtain ⟨rl, hrl, hrlen⟩ : ∃ rl : List (BitVec 32), Hid ([r0, r1, r2, r3, r4, r5, r6, r7] = rl) ∧ rl.length = 8 := ⟨_, rfl, rfl⟩
    have hglt : gg < wc.heap.size := by
      by_cases hlt : gg < wc.heap.size
      · exact hlt
      · rw [Array.getElem?_eq_none (by omega)] at qg; cases qg
    have qg' : ∀ o, (wc.alloc o).heap[gg]? = some (.cells (Go.Proofs.YtccecnohgakllaaDoor.wc rl) 59 (0, 0)) := fun o => by
      rw [Below.heap_alloc _ _ _ hglt, qg, ← unhide hrl]; rfl
    have hir : (Tryd.prog.info? 59).map (·.size) = some (Go.Proofs.YtccecnohgakllaaDoor.wc rl).size := by rw [wc_size, hrlen]; kernel_rfl
    have hd := al1 wc (.cells (bc (List.replicate 32 0)) 24)
    have hres : wc.heap[w.heap.size + 1]? = some (.cells (bc (List.replicate 32 0)) 24 (0, 0)) := Below.at hbw (by have := unhide Hz2; omega) (unhide Q1)
    have hzc : w.heap.size + 1 < wc.heap.size := by have := hbw.size; have := unhide Hz2; omega
    have hres' := (Below.heap_alloc wc (.cells (bc (List.replicate 32 0)) 24) _ hzc).trans hres
    have hbel : Below w.heap.size w (wc.alloc (.cells (bc (List.replicate 32 0)) 24)) := (hb2.trans (hbw.mono (by have := unhide Hz2; omega))).alloc (by omega) _
    have Hd := hide hd
    have Hr := hide hres'
    clear qg hres hd hres' hbw hgg
    go_wp2_with (refine wpList_load_row rfl 59 (.tmp 3) rfl gg rfl 59 _ (0, 0) _ (qg' _) Tryd.underlying59 rfl hir ?_)
    clear qg' hir
    generalize hBd : wc.heap.size = Bd at *
    clear hBd
    go_loopw [25] (fun i wr => ∃ k : Nat, k ≤ 8 ∧ i = .int .i64 k ∧ Below w.heap.size w wr ∧ wr.heap[Bd]? = some (.cells (bc ((rl.take k).flatMap wordBytes ++ List.replicate (32 - 4 * k) 0)) 24 (0, 0)) ∧ wr.heap[w.heap.size + 1]? = some (.cells (bc (List.replicate 32 0)) 24 (0, 0))) (fun i _ => 8 - (intOf i).toNat)
    case atStart => exact ⟨0, by omega, rfl, hbel, unhide Hd, unhide Hr⟩
    case round =>
      clear hbel Hd Hr
      obtain ⟨k, hk, rfl, hb, q, qr⟩ := hrel
      by_cases hlt : k < 8
      · have hidx := index8 rl hrlen k hlt
        generalize hx : rl.getD k 0 = x at hidx
        have Hx := hide hx
        clear hx
        have hdk : decide ((k : Int) < 8) = true := by simp; omega
        generalize hpre : (rl.take k).flatMap wordBytes = pre at q
        have hplen : pre.length = 4 * k := by rw [← hpre, flat_length, List.length_take, hrlen]; omega
        have Hpre := hide hpre
        have Hpl := hide hplen
        clear hpre hplen
        go_wp2
        go_loopw [29] (fun i wr => ∃ j : Nat, j ≤ 4 ∧ i = .int .i64 j ∧ Below w.heap.size w wr ∧ wr.heap[Bd]? = some (.cells (bc (pre ++ (wordBytes x).take j ++ List.replicate (32 - 4 * k - j) 0)) 24 (0, 0)) ∧ wr.heap[w.heap.size + 1]? = some (.cells (bc (List.replicate 32 0)) 24 (0, 0))) (fun i _ => 4 - (intOf i).toNat)
        case atStart => exact ⟨0, by omega, rfl, hb, by rw [q]; simp, qr⟩
        case round =>
          clear hb q qr
          obtain ⟨j, hj, rfl, hb, q, qr⟩ := hrel
          by_cases hjl : j < 4
          · have hl : (pre ++ (wordBytes x).take j).length = 4 * k + j := by rw [List.length_append, unhide Hpl, List.length_take, wordBytes_length]; omega
            have hz : List.replicate (32 - 4 * k - j) (0 : UInt8) = 0 :: List.replicate (32 - 4 * k - (j + 1)) 0 := by rw [show 32 - 4 * k - j = (32 - 4 * k - (j + 1)) + 1 by omega]; rfl
            rw [hz] at q
            have c : wr.cell? ⟨Bd, 4 * k + j, none⟩ = some (.int .u8 (((pre ++ (wordBytes x).take j ++ 0 :: List.replicate (32 - 4 * k - (j + 1)) 0).getD (4 * k + j) 0).toNat : Int)) := by
              rw [cell_of_row _ _ _ _ _ _ q]; exact bc_at _ _ (by rw [List.length_append, hl]; simp)
            generalize hv : (pre ++ (wordBytes x).take j ++ 0 :: List.replicate (32 - 4 * k - (j + 1)) 0).getD (4 * k + j) 0 = v at c
            have fz : wr.frozen? ⟨Bd, 4 * k + j, none⟩ = false := frozen_of_row _ _ _ _ _ q
            have b1 : (0 : Int) ≤ 4 * k + j ∧ (4 : Int) * k + j < 32 := by omega
            have b2 : (4 * (k : Int) + (j : Int)).toNat = 4 * k + j := by omega
            obtain ⟨sh, hsh, esh⟩ : ∃ sh : Nat, Hid (24 - 8 * j = sh) ∧ (24 : Int) - 8 * (j : Int) = (sh : Int) := ⟨_, rfl, by omega⟩
            have hs24 : sh ≤ 24 := by have := unhide hsh; omega
            have Hl := hide hl
            have Hq := hide q
            have hBlt : w.heap.size ≤ Bd := by omega
            clear hz hl hv q
            go_wp2
            go_roundw
            case rel =>
              refine ⟨j + 1, by omega, by go_num, hb.setCell (by simp; omega) _, ?_, ?_⟩
              · rw [byte_mod, ← unhide hsh, ← wordBytes_at x j hjl, heap_setCell_same _ _ _ _ _ _ (unhide Hq), bc_set _ _ _ _ _ (unhide Hl).symm, take_snoc' _ _ 0 (by rw [wordBytes_length]; omega)]
                simp
              · rw [heap_setCell_other _ _ _ _ (by simp; omega)]; exact qr
            case measure => simp [intOf]; omega
          · have hdj : decide ((j : Int) < 4) = false := by simp; omega
            have q' : wr.heap[Bd]? = some (.cells (bc ((rl.take (k + 1)).flatMap wordBytes ++ List.replicate (32 - 4 * (k + 1)) 0)) 24 (0, 0)) := by
              rw [q, show j = 4 by omega, take_snoc' rl k 0 (by omega), List.flatMap_append, unhide Hpre, unhide Hx, List.take_of_length_le (by rw [wordBytes_length]; omega), show 32 - 4 * k - 4 = 32 - 4 * (k + 1) by omega]
              simp
            clear q
            go_wp2
            go_roundw
            case rel => exact ⟨k + 1, by omega, by go_num, hb, q', qr⟩
            case measure => simp [intOf]; omega
      · have hdk : decide ((k : Int) < 8) = false := by simp; omega
        have hend : pEnd ⟨⟨a, b, c, d, e, f, g, h⟩, rest, count⟩ = rl.flatMap wordBytes := by
          simp only [pEnd]; rw [unhide Hpd, unhide HT, ← unhide hrl]; rfl
        have q' : wr.heap[Bd]? = some (.cells (bc (pEnd ⟨⟨a, b, c, d, e, f, g, h⟩, rest, count⟩)) 24 (0, 0)) := by
          rw [q, show k = 8 by omega, hend, List.take_of_length_le (by omega)]; simp
        generalize hE : pEnd ⟨⟨a, b, c, d, e, f, g, h⟩, rest, count⟩ = res at q' hend
        have HE := hide hE
        have hil : (Tryd.prog.info? 24).map (·.size) = some (bc res).size := by rw [bc_size, hend, flat_length, hrlen]; kernel_rfl
        have ho1 := bc_oneCell res
        have hsz : (bc (List.replicate 32 (0 : UInt8))).size = (bc res).size := by rw [bc_size, bc_size, hend, flat_length, hrlen]; rfl
        clear q hend hE
        go_wp2_with (first
          | (refine wpList_load_row rfl 24 (.tmp 5) rfl Bd rfl 24 _ (0, 0) _ q' Tryd.underlying24 rfl hil ?_)
          | (refine wpList_store_row rfl 24 (.tmp 2) (.tmp 45) rfl (w.heap.size + 1) _ rfl rfl 24 _ qr hil hsz ho1 ?_))
        exact bodyPost_ret (results_cell_row rfl _ _ (w.heap.size + 1) _ _ _ _ rfl (setRow_heap _ _ _ _ _ _ qr) Tryd.underlying24 rfl hil) rfl ⟨by rw [unhide HE], below_setRow hb (by simp) _⟩
end Go.Proofs.YtccecnohgakllaaDoor
