/-
  THE DOCUMENT's OWN READER OF BYTES (layer 3): Take, Fail, Number, Text, End: it answers as wire's does.
-/
import Derived.Test.YtlanplknendmaaaWireRead2
import Derived.Test.YtlanplknendmaaaStrIdx
namespace Go.Proofs.Ytlanplknendmaaa
open Go.RowKit
set_option linter.unusedSimpArgs false
set_option linter.unusedVariables false

def DdAt (w : World) (g : Nat) (r : Rd) : Prop := w.heap[g]? = some (.cells r.cells 66 (0, 0))
theorem DdAt.lt {w : World} {g : Nat} {r : Rd} (h : DdAt w g r) : g < w.heap.size := (Array.getElem?_eq_some_iff.1 h).1
theorem DdAt.below {w w' : World} {g : Nat} {r : Rd} (h : DdAt w g r) (hb : Below w.heap.size w w') : DdAt w' g r := (hb.block g h.lt).trans h
theorem DdAt.c0 {w : World} {g : Nat} {r : Rd} (h : DdAt w g r) : w.cell? ⟨g, 0, none⟩ = some (.string (str r.rest)) := cell_of_row _ _ _ _ _ _ h
theorem DdAt.c1 {w : World} {g : Nat} {r : Rd} (h : DdAt w g r) : w.cell? ⟨g, 1, none⟩ = some (.int .i64 r.err) := cell_of_row _ _ _ _ _ _ h
theorem DdAt.f0 {w : World} {g : Nat} {r : Rd} (h : DdAt w g r) (o : Nat) : w.frozen? ⟨g, o, none⟩ = false := frozen_of_row _ _ _ _ _ h
theorem DdAt.set1 {w : World} {g : Nat} {r : Rd} (h : DdAt w g r) (e : Int) : DdAt (w.setCell ⟨g, 1, none⟩ (.int .i64 e)) g ⟨r.rest, e⟩ := heap_setCell_same _ _ _ _ _ _ h
theorem DdAt.set0 {w : World} {g : Nat} {r : Rd} (h : DdAt w g r) (l : List UInt8) : DdAt (w.setCell ⟨g, 0, none⟩ (.string (str l))) g ⟨l, r.err⟩ := heap_setCell_same _ _ _ _ _ _ h
theorem DdAt.other {g G o : Nat} {w : World} {r : Rd} (h : DdAt w g r) (hG : g ≠ G) (v : Value) : DdAt (w.setCell ⟨G, o, none⟩ v) g r :=
  (heap_setCell_other _ _ _ _ (by show g ≠ G; exact hG)).trans h

theorem dfail_calls (g : Nat) (r : Rd) (k : Int) (w : World) (h : DdAt w g r) :
    Calls Try.prog 31 #[.pointer (some ⟨g, 0, none⟩), .int .i64 k] w fun e w' => e = .returned (.tuple #[]) ∧ DdAt w' g (r.fail k) ∧ Turned g w w' := by
  have c1 := h.c1
  have f1 := h.f0 1
  by_cases h0 : r.err = 0
  · have e1 : (r.err == 0) = true := by simpa using h0
    have hr : r.fail k = ⟨r.rest, k⟩ := by rw [Rd.fail, if_pos h0]
    have H := hide h
    rw [hr]
    generalize r.err = re at *
    clear h0 h hr
    go_enter Try.func31, Try.ntmps31
    go_wp2
    go_end0
    exact ⟨rfl, (unhide H).set1 k, (Turned.refl _ _).setCell _⟩
  · have e1 : (r.err == 0) = false := by simpa using h0
    have hr : r.fail k = r := by rw [Rd.fail, if_neg h0]
    have H := hide h
    rw [hr]
    clear h0 h hr
    go_enter Try.func31, Try.ntmps31
    go_wp2
    go_end0
    exact ⟨rfl, unhide H, Turned.refl _ _⟩
theorem dend_calls (g : Nat) (r : Rd) (w : World) (h : DdAt w g r) :
    Calls Try.prog 33 #[.pointer (some ⟨g, 0, none⟩)] w fun e w' => e = .returned (.int .i64 r.end') ∧ w' = w := by
  have c0 := h.c0
  have c1 := h.c1
  clear h
  by_cases h0 : r.err = 0
  · have e1 : (r.err == 0) = true := by simpa using h0
    by_cases h1 : r.rest = []
    · have hr : r.end' = r.err := by simp [Rd.end', h0, h1]
      have hd : decide (0 < r.rest.length) = false := by simp [h1]
      have hd' : decide (0 < (r.rest.length : Int)) = false := by simp [h1]
      rw [hr]
      generalize r.err = re at *
      clear hr h0 h1
      go_enter Try.func33, Try.ntmps33
      go_wp2
      go_ret
      exact ⟨rfl, rfl⟩
    · have hr : r.end' = 4 := by simp [Rd.end', h0, h1]
      have hlen : 0 < r.rest.length := List.length_pos_iff.2 h1
      have hd : decide (0 < r.rest.length) = true := by simpa using hlen
      have hd' : decide (0 < (r.rest.length : Int)) = true := by simp; omega
      rw [hr]
      generalize r.err = re at *
      clear hr h0 h1
      go_enter Try.func33, Try.ntmps33
      go_wp2
      go_ret
      exact ⟨rfl, rfl⟩
  · have e1 : (r.err == 0) = false := by simpa using h0
    have hr : r.end' = r.err := by simp [Rd.end', h0]
    rw [hr]
    clear hr h0
    go_enter Try.func33, Try.ntmps33
    go_wp2
    go_ret
    exact ⟨rfl, rfl⟩
set_option maxHeartbeats 1000000 in
theorem dtake_calls (g n : Nat) (hn : n ≤ 4611686018427387904) (r : Rd) (hl : r.rest.length ≤ 4611686018427387904) (w : World) (h : DdAt w g r) :
    Calls Try.prog 51 #[.pointer (some ⟨g, 0, none⟩), .int .i64 (n : Int)] w fun e w' => e = .returned (.string (str (r.take n).1)) ∧ DdAt w' g (r.take n).2 ∧ Turned g w w' := by
  have c0 := h.c0
  have c1 := h.c1
  have f0 := h.f0 0
  have f1 := h.f0 1
  by_cases h0 : r.err = 0
  · have e0 : (r.err == 0) = true := by simpa using h0
    have e0' : (r.err != 0) = false := by simpa using h0
    by_cases h1 : r.rest.length < n
    · have hd : decide (r.rest.length < n) = true := by simp; omega
      have hr : r.take n = ([], ⟨r.rest, 3⟩) := by simp [Rd.take, h0, h1]
      rw [hr]
      have H := hide h
      clear hr h0 h1 h
      go_enter Try.func51, Try.ntmps51
      go_wp2
      go_ret
      exact ⟨rfl, (unhide H).set1 3, (Turned.refl _ _).setCell _⟩
    · have hd : decide (r.rest.length < n) = false := by simp; omega
      have hr : r.take n = (r.rest.take n, ⟨r.rest.drop n, 0⟩) := by simp [Rd.take, h0, h1]
      rw [hr]
      have H := hide h
      have H0 := hide h0
      have es := take_str r.rest n
      have ed := drop_str r.rest n _ rfl
      have b0 : (n : Int) ≤ (r.rest.length : Int) := by omega
      clear hr h0 h1 h
      go_enter Try.func51, Try.ntmps51
      go_wp2
      go_ret
      have h2 := (unhide H).set0 (r.rest.drop n)
      rw [unhide H0] at h2
      exact ⟨rfl, h2, (Turned.refl _ _).setCell _⟩
  · have e0 : (r.err == 0) = false := by simpa using h0
    have e0' : (r.err != 0) = true := by simpa using h0
    have hr : r.take n = ([], r) := by simp [Rd.take, h0]
    rw [hr]
    have H := hide h
    clear hr h0 h
    go_enter Try.func51, Try.ntmps51
    go_wp2
    go_ret
    exact ⟨rfl, unhide H, Turned.refl _ _⟩
set_option maxHeartbeats 400000 in
theorem dnumber_calls (g n : Nat) (hn : n ≤ 8) (r : Rd) (hl : r.rest.length ≤ 4611686018427387904) (w : World) (h : DdAt w g r) :
    Calls Try.prog 30 #[.pointer (some ⟨g, 0, none⟩), .int .i64 (n : Int)] w fun e w' => e = .returned (.int .u64 ((r.num n).1 : Int)) ∧ DdAt w' g (r.num n).2 ∧ Turned g w w' := by
  have ht := dtake_calls g n (by omega) r hl w h
  have hlen := Nat.le_trans (r.take_length n) hn
  unfold Rd.num
  simp only
  generalize (r.take n).2 = r' at *
  generalize (r.take n).1 = l at *
  have Ht := hide ht
  clear ht h
  go_enter Try.func30, Try.ntmps30
  go_wp2_with fail
  refine (unhide Ht).mono ?_
  rintro e w1 ⟨rfl, hD, hT⟩
  have HD := hide hD
  have HT := hide hT
  clear hD hT
  go_wp2
  go_loopw [5, 7] (fun a i wr => ∃ k : Nat, k ≤ l.length ∧ a = .int .u64 (pNum (l.take k) : Int) ∧ i = .int .i64 (k : Int) ∧ wr = w1) (fun _ i _ => l.length - (intOf i).toNat)
  case atStart => exact ⟨0, by omega, rfl, rfl, rfl⟩
  case round =>
    obtain ⟨k, hk, rfl, rfl, rfl⟩ := hrel
    by_cases hlt : k < l.length
    · have c := str_index l k hlt
      have hsn := take_snoc' l k 0 hlt
      generalize hb : l.getD k 0 = b at *
      have hpn := pNum_snoc (l.take k) b
      rw [← hsn] at hpn
      have hlt2 := pNum_lt (l.take k)
      have hm : pNum (l.take k) < 72057594037927936 := Nat.lt_of_lt_of_le hlt2 (by
        have : (l.take k).length ≤ 7 := by simp; omega
        calc 256 ^ (l.take k).length ≤ 256 ^ 7 := Nat.pow_le_pow_right (by decide) this
          _ = 72057594037927936 := by decide)
      generalize pNum (l.take k) = m at *
      have hb8 := b.toNat_lt
      have hd : decide (k < l.length) = true := by simpa using hlt
      have b1 : (k : Int) < (l.length : Int) := by omega
      have Hpn := hide hpn
      clear hpn hsn hb hlt2
      go_wp2
      go_roundw
      case rel =>
        refine ⟨k + 1, by omega, ?_, by go_num, trivial⟩
        rw [unhide Hpn]
        congr 1
      case measure => simp [intOf]; omega
    · obtain rfl : k = l.length := by omega
      have hd : decide (l.length < l.length) = false := by simp
      rw [List.take_length]
      go_wp2
      go_ret
      exact ⟨rfl, unhide HD, unhide HT⟩
/-- Behind a failure nothing is taken, however much. -/
theorem Rd.take_bad (r : Rd) (n m : Nat) (h : r.err ≠ 0) : r.take n = r.take m := by simp [Rd.take, h]
theorem dtext_calls (g : Nat) (r : Rd) (hl : r.rest.length ≤ 4611686018427387904) (most : Nat) (hm : most < 4294967296) (w : World) (h : DdAt w g r) :
    Calls Try.prog 32 #[.pointer (some ⟨g, 0, none⟩), .int .i64 (most : Int)] w fun e w' => e = .returned (.string (str (r.text (most : Int)).1)) ∧ DdAt w' g (r.text (most : Int)).2 ∧ Turned g w w' := by
  have hn := dnumber_calls g 4 (by decide) r hl w h
  have hlt := r.num_lt 4
  have hrs : (r.num 4).2.rest.length ≤ r.rest.length := Rd.take_rest _ _
  unfold Rd.text Rd.len
  simp only
  generalize (r.num 4).2 = r1 at *
  generalize (r.num 4).1 = m at *
  have Hn := hide hn
  have hm1 : decide ((most : Int) < 0) = false := by simp
  have hm2 : decide ((most : Int) ≥ 0) = true := by simp
  clear hn h
  by_cases hc : most < m
  · have hc' : 0 < m ∧ (most : Int) < (m : Int) := by omega
    rw [if_pos hc']
    have hcd : decide (most < m) = true := by simpa using hc
    have hbad := Rd.fail_rest r1 5
    have ht := fun W hW => dtake_calls g 0 (by omega) (r1.fail 5) (by rw [hbad]; omega) W hW
    rw [Rd.take_bad (r1.fail 5) 0 m (by unfold Rd.fail; split <;> simp_all)] at ht
    have Hf := hide fun W hW => dfail_calls g r1 5 W hW
    have Ht := hide ht
    generalize (r1.fail 5).take m = tk at *
    generalize r1.fail 5 = r2 at *
    have hmany : Calls Try.prog 52 #[.pointer (some ⟨g, 0, none⟩), .int .i64 (most : Int)] w fun e w' => e = .returned (.int .i64 0) ∧ DdAt w' g r2 ∧ Turned g w w' := by
      clear hc' ht hbad hc
      go_enter Try.func52, Try.ntmps52
      go_wp2_with fail
      refine (unhide Hn).mono ?_
      rintro e w1 ⟨rfl, D1, T1⟩
      go_wp2_with fail
      refine (unhide Hf _ D1).mono ?_
      rintro e w2 ⟨rfl, D2, T2⟩
      go_wp2
      go_ret
      exact ⟨rfl, D2, T1.trans T2⟩
    have Hmany := hide hmany
    clear hmany hc' ht hbad hc
    go_enter Try.func32, Try.ntmps32
    go_wp2_with fail
    refine (unhide Hmany).mono ?_
    rintro e w1 ⟨rfl, D1, T1⟩
    go_wp2_with fail
    refine (unhide Ht _ D1).mono ?_
    rintro e w2 ⟨rfl, D2, T2⟩
    go_wp2
    go_ret
    exact ⟨rfl, D2, T1.trans T2⟩
  · have hc' : ¬ (0 < m ∧ (most : Int) < (m : Int)) := by omega
    rw [if_neg hc']
    have hcd : decide (most < m) = false := by simpa using hc
    have ht := fun W hW => dtake_calls g m (by omega) r1 (by omega) W hW
    have Ht := hide ht
    generalize r1.take m = tk at *
    have hmany : Calls Try.prog 52 #[.pointer (some ⟨g, 0, none⟩), .int .i64 (most : Int)] w fun e w' => e = .returned (.int .i64 (m : Int)) ∧ DdAt w' g r1 ∧ Turned g w w' := by
      clear hc' ht hc
      go_enter Try.func52, Try.ntmps52
      go_wp2_with fail
      refine (unhide Hn).mono ?_
      rintro e w1 ⟨rfl, D1, T1⟩
      go_wp2
      go_ret
      exact ⟨rfl, D1, T1⟩
    have Hmany := hide hmany
    clear hmany hc' ht hc
    go_enter Try.func32, Try.ntmps32
    go_wp2_with fail
    refine (unhide Hmany).mono ?_
    rintro e w1 ⟨rfl, D1, T1⟩
    go_wp2_with fail
    refine (unhide Ht _ D1).mono ?_
    rintro e w2 ⟨rfl, D2, T2⟩
    go_wp2
    go_ret
    exact ⟨rfl, D2, T1.trans T2⟩
end Go.Proofs.Ytlanplknendmaaa
