/-
  WHAT wire's Digest AND Digests RETURN.
-/
import Derived.Test.YtngmcipmmeabmaaWireText
import Derived.Test.YtngmcipmmeabmaaWireRead5
import Derived.Test.YtngmcipmmeabmaaShelfG
import Derived.Deep.MidRow
namespace Go.Proofs.Ytngmcipmmeabmaa
open Go.RowKit
set_option linter.unusedSimpArgs false
set_option linter.unusedVariables false

set_option maxRecDepth 100000 in
theorem wdigest_calls (d : List UInt8) (hd : d.length = 32) (w : World) :
    Calls Try.prog 13 #[.agg (bc d)] w fun e w' => e = .returned (.string (str d)) ∧ Below w.heap.size w w' := by
  have hsz : (bc d).size = 32 := by rw [bc_size, hd]
  have q := al1 w (.cells (bc d) 24)
  have hcv := run_convert_bytes_back (P := Try.prog) (w.alloc (.cells (bc d) 24)) 57 9 5 ⟨w.heap.size, 0, none⟩ 32 d Try.underlying57 Try.underlying5 Try.underlying9 (fun j hj => by
    have hadd : (⟨w.heap.size, 0, none⟩ : Addr).add j = ⟨w.heap.size, j, none⟩ := by unfold Addr.add; split <;> simp_all
    rw [hadd, cell_of_row _ _ _ _ _ _ q, bc_at _ _ hj]; simp [hj])
  rw [hd] at hcv
  clear q hsz
  go_enter Try.func13, Try.ntmps13
  go_wp2
  go_ret
  exact ⟨rfl, (Below.refl _ _).alloc (Nat.le_refl _) _⟩
/-- How many, and they. -/
def pDigests (l : List UInt8) : List UInt8 := pBig (l.length / 32) 4 ++ l
set_option maxHeartbeats 1000000 in
set_option maxRecDepth 100000 in
theorem wdigests_calls (v : Value) (l : List UInt8) (hl : l.length ≤ 137438953471) (w : World) (h : Digs w v l) :
    Calls Try.prog 17 #[v] w fun e w' => e = .returned (.string (str (pDigests l))) ∧ Below w.heap.size w w' := by
  obtain ⟨p, n, cap, rfl, hn, hp⟩ := h
  have hdiv : l.length / 32 = n := by omega
  have hn32 : n < 4294967296 := by omega
  unfold pDigests
  rw [hdiv]
  have hlen := pBig_length n 4
  have hww := wword_calls n hn32
  generalize pBig n 4 = B at *
  have Hww := hide hww
  have Hp := hide hp
  have Hn := hide hn
  obtain ⟨s, hs, es⟩ : ∃ s : Nat, Hid (4 + 32 * n = s) ∧ IntKind.i64.wrap ((4 : Int) + IntKind.i64.wrap (32 * (n : Int))) = (s : Int) := ⟨_, rfl, by rw [wi64 (32 * (n : Int)) (by omega) (by omega), wi64 _ (by omega) (by omega)]; omega⟩
  have es2 : IntKind.i64.wrap (32 * (n : Int)) = 32 * (n : Int) := wi64 _ (by omega) (by omega)
  have es3 : (4 : Int) + 32 * (n : Int) = (s : Int) := by have := unhide hs; omega
  have hsb : s ≤ 281474976710656 := by have := unhide hs; omega
  clear hww hp hn hdiv
  go_enter Try.func17, Try.ntmps17
  go_wp2_with fail
  refine (grow_fresh w.heap.size w.heap.size s _ (Nat.le_refl _) (al1 _ _) (by simp) hsb).mono ?_
  rintro e w1 ⟨rfl, hB1, hb1⟩
  have b1 : Below w.heap.size w w1 := ((Below.refl _ w).alloc (Nat.le_refl _) _).trans hb1
  have B1 : Lib.IsBuilderF 60 5 w.heap.size w.heap.size [] w1 := Lib.IsBuilderF.of (.inr hB1)
  have hz1 : w.heap.size < w1.heap.size := (Lib.BuilderAtF.of hB1).lt
  clear hb1 hB1
  go_wp2_with fail
  refine (unhide Hww _).mono ?_
  rintro e w2 ⟨rfl, hb2⟩
  have b2 := b1.trans (hb2.mono b1.size)
  have B2 := isBuilder_below B1 hb2
  have hz2 := hb2.size
  clear b1 B1 hb2
  go_wp2_with fail
  refine (writeString_calls w.heap.size w.heap.size [] (str B) _ B2 (by rw [str_size]; simp; omega) (by omega)).mono ?_
  rintro e w3 ⟨rfl, hB3, hb3, _⟩
  have b3 := b2.trans hb3
  have B3 : Lib.IsBuilderF 60 5 w.heap.size w.heap.size (Lib.byteCells B) w3 := .inr (by
    have e4 : ([] : List Value) ++ Lib.strCells (str B) = Lib.byteCells B := by simp [Lib.strCells, Lib.byteCells, str]
    rw [e4] at hB3; exact hB3)
  have hz3 : w.heap.size < w3.heap.size := hB3.lt
  clear b2 B2 hB3 hb3 hz1 hz2
  go_wp2
  go_loopw [18] (fun i wr => ∃ j : Nat, j ≤ n ∧ i = .int .i64 (j : Int) ∧ Below w.heap.size w wr ∧ Lib.IsBuilderF 60 5 w.heap.size w.heap.size (Lib.byteCells (B ++ l.take (32 * j))) wr) (fun i _ => n - (intOf i).toNat)
  case atStart => exact ⟨0, by omega, rfl, b3, by simpa using B3⟩
  case round =>
    clear b3 B3 hz3
    obtain ⟨j, hj, rfl, hb, hB⟩ := hrel
    have hzr : w.heap.size < wr.heap.size := by
      rcases hB with hB | hB
      · exact hB.lt
      · exact hB.lt
    have hln := unhide Hn
    by_cases hlt : j < n
    · have hd : decide (j < n) = true := by simpa using hlt
      have bk : (j : Int) < (n : Int) := by omega
      obtain ⟨b, off, rfl, hbz, hby⟩ := unhide Hp (by omega)
      obtain ⟨ch, hch, hcl⟩ : ∃ ch : List UInt8, Hid ((l.drop (32 * j)).take 32 = ch) ∧ ch.length = 32 := ⟨_, rfl, by rw [List.length_take, List.length_drop]; omega⟩
      have hr : wr.rangeAt b (off + j * 32) (Lib.byteCells ch) := fun i v hv => by
        have hi : i < 32 := by
          have := (List.getElem?_eq_some_iff.1 hv).1
          rw [Lib.byteCells_length] at this; omega
        have h1 := (hby.below hb hbz) (j * 32 + i) (by omega)
        rw [show off + j * 32 + i = off + (j * 32 + i) by omega, h1]
        have h2 := bc_at ch i (by omega)
        rw [bc, List.getElem?_toArray] at h2
        rw [h2] at hv
        rw [← Option.some.inj hv, ← unhide hch]
        simp [List.getD_eq_getElem?_getD, List.getElem?_take, List.getElem?_drop, hi, Nat.mul_comm]
      have hil : (Try.prog.info? 24).map (·.size) = some (Lib.byteCells ch).length := by rw [Lib.byteCells_length, hcl]; kernel_rfl
      have hil2 : (Try.prog.info? 24).map (·.size) = some (bc ch).size := by rw [bc_size, hcl]; kernel_rfl
      have hsz2 : (bc (List.replicate 32 (0 : UInt8))).size = (bc ch).size := by rw [bc_size, bc_size, hcl]; rfl
      have ho1 := bc_oneCell ch
      have qn : (wr.alloc (.cells (bc (List.replicate 32 0)) 24)).heap[wr.heap.size]? = some (.cells (bc (List.replicate 32 0)) 24 (0, 0)) := al1 _ _
      have qs := setRow_heap _ _ _ (bc ch) _ _ qn
      clear hln hby hbz
      go_wp2_with (first
        | (refine wpList_load_mid rfl 24 (.tmp 20) rfl b (off + j * 32) rfl (Lib.byteCells ch) _ hr Try.underlying24 rfl hil ?_)
        | (refine wpList_store_row rfl 24 (.tmp 5) (.tmp 21) rfl wr.heap.size _ rfl rfl 24 _ qn hil2 hsz2 ho1 ?_)
        | (refine wpList_load_row rfl 24 (.tmp 5) rfl wr.heap.size rfl 24 _ (0, 0) _ qs Try.underlying24 rfl hil2 ?_))
      have hbA : Below wr.heap.size wr ((wr.alloc (.cells (bc (List.replicate 32 0)) 24)).setRow wr.heap.size (Lib.byteCells ch).toArray) := below_setRow ((Below.refl _ wr).alloc (Nat.le_refl _) _) (Nat.le_refl _) _
      refine (wdigest_calls ch hcl ((wr.alloc (.cells (bc (List.replicate 32 0)) 24)).setRow wr.heap.size (Lib.byteCells ch).toArray)).mono ?_
      generalize (wr.alloc (.cells (bc (List.replicate 32 0)) 24)).setRow wr.heap.size (Lib.byteCells ch).toArray = W at *
      rintro e w5 ⟨rfl, hb5⟩
      have hb6 : Below wr.heap.size wr w5 := hbA.trans (hb5.mono hbA.size)
      have B6 := isBuilder_below hB hb6
      have hz6 := hb6.size
      clear hbA hb5 hr hil hil2 hsz2 ho1 qn qs hB
      go_wp2_with fail
      refine (writeString_calls w.heap.size w.heap.size _ (str ch) _ B6 (by rw [str_size, Lib.byteCells_length, List.length_append, List.length_take]; omega) (by omega)).mono ?_
      rintro e w7 ⟨rfl, hB7, hb7, _⟩
      have e4 : Lib.byteCells (B ++ l.take (32 * j)) ++ Lib.strCells (str ch) = Lib.byteCells (B ++ l.take (32 * (j + 1))) := by
        rw [show Lib.strCells (str ch) = Lib.byteCells ch by simp [Lib.strCells, Lib.byteCells, str], ← Lib.byteCells_append, List.append_assoc, ← unhide hch, ← List.take_add, show 32 * (j + 1) = 32 * j + 32 by omega]
      rw [e4] at hB7
      clear e4 B6
      go_wp2
      go_roundw
      case rel => exact ⟨j + 1, by omega, by go_num, (hb.trans (hb6.mono (by omega))).trans hb7, .inr hB7⟩
      case measure => simp [intOf]; omega
    · have hd : decide (j < n) = false := by simpa using hlt
      have ht : l.take (32 * j) = l := List.take_of_length_le (by omega)
      rw [ht] at hB
      clear ht hln
      go_wp2_with fail
      refine (string_calls w.heap.size w.heap.size _ _ hB (by omega)).mono ?_
      rintro e w5 ⟨rfl, _, hb5, _⟩
      go_wp2
      go_ret
      exact ⟨rfl, hb.trans hb5⟩
end Go.Proofs.Ytngmcipmmeabmaa
