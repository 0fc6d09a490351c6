/-
  WHAT Of RETURNS, AND NOTES, WHERE THERE IS A LOG.
-/
import Derived.Test.YtccecnohgakllaaDoorLogM
namespace Go.Proofs.YtccecnohgakllaaDoor
open Go Go.RowKit Go.Maps
set_option linter.unusedSimpArgs false
set_option linter.unusedVariables false

/-- A log's maps stay where they are; where there were none, they are new. -/
def ExtM (w : World) (ms : Option (Nat × Nat)) (ms' : Nat × Nat) : Prop := (∀ m, ms = some m → ms' = m) ∧ (ms = none → w.heap.size ≤ ms'.1 ∧ w.heap.size ≤ ms'.2)
theorem LogAt.lt {w : World} {b : Nat} {ms : Option (Nat × Nat)} {ins : List (List UInt8)} (h : LogAt w b ms ins) : b < w.heap.size ∧ ∀ m, ms = some m → m.1 < w.heap.size ∧ m.2 < w.heap.size := by
  cases ms with
  | none => exact ⟨(Array.getElem?_eq_some_iff.1 h.2).1, fun m hm => by cases hm⟩
  | some m => exact ⟨(Array.getElem?_eq_some_iff.1 h.1).1, fun m' hm => by obtain rfl := Option.some.inj hm; exact ⟨h.2.2.2.2.1.lt, h.2.2.2.2.2.lt⟩⟩
theorem LogAt.kept {w w' : World} {b : Nat} {ms : Option (Nat × Nat)} {ins : List (List UInt8)} {row : Option Nat} (h : LogAt w b ms ins) (hg : w.grownBy w' row) (hb : some b ≠ row) (hm : ∀ m, ms = some m → some m.1 ≠ row ∧ some m.2 ≠ row) : LogAt w' b ms ins := by
  have hl := h.lt
  cases ms with
  | none => exact ⟨h.1, (hg.block b hl.1 hb).trans h.2⟩
  | some m =>
    obtain ⟨h1, h2, h3, h4, h5, h6⟩ := h
    exact ⟨(hg.block b hl.1 hb).trans h1, h2, h3, h4, h5.kept hg (hm _ rfl).1, h6.kept hg (hm _ rfl).2⟩
theorem LogAt.below' {w w' : World} {b : Nat} {ms : Option (Nat × Nat)} {ins : List (List UInt8)} (h : LogAt w b ms ins) (hb : Below w.heap.size w w') : LogAt w' b ms ins :=
  h.kept (grown_of_below hb none) (by simp) (fun m _ => ⟨by simp, by simp⟩)
theorem grown_setRow (w : World) (g : Nat) (cs : Array Value) : w.grownBy (w.setRow g cs) (some g) := ⟨rfl, rfl, rfl, by simp, fun k _ hk => setRow_other w g k cs (fun e => hk (by rw [e]))⟩
theorem LogAt.setRow {w : World} {b g : Nat} {ms : Option (Nat × Nat)} {ins : List (List UInt8)} (h : LogAt w b ms ins) (cs : Array Value) (hb : b ≠ g) (hm : ∀ m, ms = some m → m.1 ≠ g ∧ m.2 ≠ g) : LogAt (w.setRow g cs) b ms ins :=
  h.kept (grown_setRow w g cs) (fun e => hb (Option.some.inj e)) (fun m hm' => ⟨fun e => (hm m hm').1 (Option.some.inj e), fun e => (hm m hm').2 (Option.some.inj e)⟩)
theorem But.setRow {b g : Nat} {ms : Option (Nat × Nat)} {w w' : World} (h : But b ms w w') (hg : w.heap.size ≤ g) (cs : Array Value) : But b ms w (w'.setRow g cs) :=
  ⟨h.os, h.tape, h.output, by rw [size_setRow]; exact h.size, fun k hk hb hm => (setRow_other w' g k cs (by omega)).trans (h.block k hk hb hm)⟩
theorem note_calls (b : Nat) (ms : Option (Nat × Nat)) (ins : List (List UInt8)) (s d : List UInt8) (hd : d.length = 32) (hds : d = pSum [s]) (hs : s.length ≤ maxLen) (hn : ins.length < 1000000) (w : World) (hL : LogAt w b ms ins) :
    Calls Tryd.prog 23 #[.pointer (some ⟨b, 0, none⟩), .string (str s), .agg (bc d)] w fun e w' => e = .returned (.tuple #[]) ∧ ∃ ms', LogAt w' b (some ms') (ins ++ [s]) ∧ ExtM w ms ms' ∧ But b ms w w' := by
  cases ms with
  | none =>
    obtain rfl := hL.1
    refine (note_none b s d hd hds hs w hL).mono ?_
    rintro e w' ⟨rfl, ⟨m1, m2, h1, h2, h3⟩, h4⟩
    exact ⟨rfl, (m1, m2), h1, ⟨fun m hm => by (cases hm), fun _ => ⟨h2, h3⟩⟩, h4⟩
  | some m =>
    refine (note_some b m.1 m.2 ins s d hd hds hs hn w hL).mono ?_
    rintro e w' ⟨rfl, h1, h2⟩
    exact ⟨rfl, m, h1, ⟨fun m' hm => (Option.some.inj hm), fun h => by (cases h)⟩, h2⟩
set_option maxHeartbeats 2000000 in
set_option maxRecDepth 100000 in
theorem ofLog_calls (b : Nat) (ms : Option (Nat × Nat)) (ins : List (List UInt8)) (hn2 : ins.length < 1000000) (dom : Nat) (hd : dom < 256) (parts : List (List UInt8)) (hp : ∀ p ∈ parts, p.length ≤ 100000000) (hn : parts.length ≤ 1000) (a : Option Addr) (cap : Nat) (w : World) (hs : StrsAt w a parts) (hL : LogAt w b ms ins) (tabs : Tabs w) :
    Calls Tryd.prog 12 #[.pointer (some ⟨b, 0, none⟩), .int .u8 (dom : Int), .slice a parts.length cap] w fun e w' => e = .returned (.agg (bc (pOf dom parts))) ∧ (∃ ms', LogAt w' b (some ms') (ins ++ [pInput dom parts]) ∧ ExtM w ms ms') ∧ But b ms w w' := by
  have ci := fun w hs => inputOf_calls dom hd parts hp hn a cap w hs
  have hil := pInput_len dom parts hp hn
  have hol := pOf_length dom parts
  unfold pOf at *
  generalize pInput dom parts = I at *
  have cs := fun g w hs tabs => sum_calls [I] (by simp; omega) (by simp) (some ⟨g, 0, none⟩) 1 w hs tabs
  have hi1 := digInfo (pSum [I]) hol
  have hz1 := zeroSize (pSum [I]) hol
  have ho1 := bc_oneCell (pSum [I])
  obtain ⟨D, hD⟩ : ∃ D, pSum [I] = D := ⟨_, rfl⟩
  rw [hD] at cs hi1 hz1 ho1 hol ⊢
  have Ci := hide ci
  have Cs := hide cs
  have HS := hide hs
  have HT := hide tabs
  have HL := hide hL
  have HI : Hid (pSum [I] = D) := hide hD
  have HIL := hide hil
  clear ci cs hs tabs hp hL hD
  go_enter Tryd.func12, Tryd.ntmps12
  go_wp2_with fail
  have hb0 : Below w.heap.size w (w.alloc (.cells (bc (List.replicate 32 0)) 24)) := (Below.refl _ w).alloc (Nat.le_refl _) _
  refine (unhide Ci _ ((unhide HS).below hb0 (Nat.le_refl _))).mono ?_
  rintro e w1 ⟨rfl, b1⟩
  have q0 : w1.heap[w.heap.size]? = some (.cells (bc (List.replicate 32 0)) 24 (0, 0)) := Below.at b1 (by simp) (al1 _ _)
  have hb1 : Below w.heap.size w w1 := hb0.trans (b1.mono (by simp))
  have z1 : w.heap.size < w1.heap.size := by have := b1.size; simp at this; omega
  clear hb0 b1
  go_wp2_with fail
  refine (unhide Cs _ _ (strsAt_one w1 I _) (((unhide HT).below hb1 (Nat.le_refl _)).below' ((Below.refl _ w1).alloc (Nat.le_refl _) _))).mono ?_
  rintro e w2 ⟨rfl, b2⟩
  have q0' := Below.at b2 (by simp; omega) ((Below.heap_alloc w1 (.cells #[.string (str I)] 9) _ z1).trans q0)
  have hb2 : Below w.heap.size w w2 := (hb1.alloc (by omega) _).trans (b2.mono (by simp; omega))
  have z2 : w.heap.size < w2.heap.size := by have := b2.size; simp at this; omega
  clear hb1 b2 q0 Cs Ci
  go_wp2_with (first
    | (refine wpList_store_row rfl 24 (.tmp 8) (.tmp 14) rfl w2.heap.size _ rfl rfl 24 _ (al1 _ _) hi1 hz1 ho1 ?_)
    | (refine wpList_load_row rfl 24 (.tmp 8) rfl w2.heap.size rfl 24 _ (0, 0) _ (setRow_heap _ _ _ (bc D) _ _ (al1 w2 (.cells (bc (List.replicate 32 0)) 24))) Tryd.underlying24 rfl hi1 ?_))
  have q8 := setRow_heap _ _ _ (bc D) _ _ (al1 w2 (.cells (bc (List.replicate 32 0)) 24))
  have q9 := (setRow_other (w2.alloc (.cells (bc (List.replicate 32 0)) 24)) w2.heap.size w.heap.size (bc D) (by omega)).trans ((Below.heap_alloc w2 _ _ z2).trans q0')
  have hb3 := below_setRow (hb2.alloc (by omega) (.cells (bc (List.replicate 32 0)) 24)) (Nat.le_of_lt z2) (bc D)
  have z3 : w2.heap.size < (w2.alloc (.cells (bc (List.replicate 32 0)) 24)).heap.size := by simp
  have LB : Below w.heap.size w _ := hb3
  have L3 := (unhide HL).below' LB
  have hbl := (unhide HL).lt
  refine (note_calls b ms ins I D hol (unhide HI).symm (by have := unhide HIL; unfold maxLen; omega) hn2 _ L3).mono ?_
  rintro e w4 ⟨rfl, ms', L4, X4, B4⟩
  have q8' := (B4.block _ (Array.getElem?_eq_some_iff.1 q8).1 (by omega) (fun m hm => by have := hbl.2 m hm; omega)).trans q8
  have q9' := (B4.block _ (Array.getElem?_eq_some_iff.1 q9).1 (by omega) (fun m hm => by have := hbl.2 m hm; omega)).trans q9
  have C4 : But b ms w w4 := (⟨hb3.os, hb3.tape, hb3.output, hb3.size, fun k hk _ _ => hb3.block k hk⟩ : But b ms w _).trans B4 (.inl rfl)
  have z4 : w.heap.size < w4.heap.size := (Array.getElem?_eq_some_iff.1 q9').1
  have zz := hb3.size
  have X5 : ExtM w ms ms' := ⟨X4.1, fun h => by have := X4.2 h; omega⟩
  have n9 : ∀ m, some ms' = some m → m.1 ≠ w.heap.size ∧ m.2 ≠ w.heap.size := fun m hm => by
    obtain rfl := Option.some.inj hm
    cases hms : ms with
    | none => have h1 := X4.2 hms; have h2 : w.heap.size < ((w2.alloc (.cells (bc (List.replicate 32 0)) 24)).setRow w2.heap.size (bc D)).heap.size := by rw [setRow_size, World.size_alloc]; omega
              omega
    | some m => have h1 := X4.1 m hms; have h2 := hbl.2 m hms; subst h1; omega
  have L5 := hide (L4.setRow (g := w.heap.size) (bc D) (by omega) n9)
  have C5 := hide (C4.setRow (Nat.le_refl _) (bc D))
  have HX5 := hide X5
  clear q8 q9 hb3 LB L3 L4 X4 X5 B4 C4 n9
  go_wp2_with (first
    | (refine wpList_load_row rfl 24 (.tmp 8) rfl w2.heap.size rfl 24 _ (0, 0) _ q8' Tryd.underlying24 rfl hi1 ?_)
    | (refine wpList_store_row rfl 24 (.tmp 6) (.tmp 19) rfl w.heap.size _ rfl rfl 24 _ q9' hi1 hz1 ho1 ?_))
  exact bodyPost_ret (results_cell_row rfl _ _ w.heap.size _ _ _ _ rfl (setRow_heap _ _ _ _ _ _ q9') Tryd.underlying24 rfl hi1) rfl ⟨rfl, ⟨ms', unhide L5, unhide HX5⟩, unhide C5⟩
end Go.Proofs.YtccecnohgakllaaDoor
