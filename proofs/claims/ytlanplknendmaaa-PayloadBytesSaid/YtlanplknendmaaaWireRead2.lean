/-
  WHAT A READER's number, Byte, Word, Long ANSWER.
-/
import Derived.Test.YtlanplknendmaaaWireRead
import Derived.Test.YtlanplknendmaaaConvB
namespace Go.Proofs.Ytlanplknendmaaa
open Go.RowKit
set_option linter.unusedSimpArgs false
set_option linter.unusedVariables false

/-- The number that bytes are, the highest first. -/
def pNum (l : List UInt8) : Nat := l.foldl (fun n b => n * 256 + b.toNat) 0
theorem pNum_snoc (l : List UInt8) (b : UInt8) : pNum (l ++ [b]) = pNum l * 256 + b.toNat := by simp [pNum]
theorem pNum_lt_from : ∀ (l : List UInt8) (a : Nat), l.foldl (fun n b => n * 256 + b.toNat) a < (a + 1) * 256 ^ l.length
  | [], a => by simp
  | b :: l, a => by
    have h := pNum_lt_from l (a * 256 + b.toNat)
    have hb := b.toNat_lt
    rw [List.foldl_cons, List.length_cons, Nat.pow_succ, Nat.mul_comm (256 ^ l.length) 256, ← Nat.mul_assoc]
    exact Nat.lt_of_lt_of_le h (Nat.mul_le_mul_right _ (by omega))
theorem pNum_lt (l : List UInt8) : pNum l < 256 ^ l.length := by
  have := pNum_lt_from l 0
  rw [Nat.zero_add, Nat.one_mul] at this; exact this
theorem or256 (m b : Nat) (hm : m < 72057594037927936) (hb : b < 256) : bits BinOp.or IntKind.u64 ((m : Int) * 256) (b : Int) = ((m * 256 + b : Nat) : Int) := by
  have e : (m : Int) * 256 = ((m * 256 : Nat) : Int) := by omega
  rw [e, u64_or_nat _ _ (by omega) (by omega), nat_join 8 _ _ (by omega) (by omega)]

set_option maxHeartbeats 400000 in
theorem rnumber_of (p : Value) (n : Nat) (l : List UInt8) (hl : l.length ≤ 8) (R : World → Prop) (w : World)
    (ht : Calls Try.prog 59 #[p, .int .i64 (n : Int)] w fun e w1 => e = .returned (.string (str l)) ∧ R w1) :
    Calls Try.prog 58 #[p, .int .i64 (n : Int)] w fun e w' => e = .returned (.int .u64 (pNum l : Int)) ∧ ∃ w1, R w1 ∧ Below w1.heap.size w1 w' := by
  have Ht := hide ht
  clear ht
  go_enter Try.func58, Try.ntmps58
  go_wp2_with fail
  refine (unhide Ht).mono ?_
  rintro e w1 ⟨rfl, hR⟩
  have cv := conv_run l w1
  have hby := bworld_bytes w1 l
  have hbb := bworld_below l (Below.refl w1.heap.size w1) (Nat.le_refl _)
  generalize hW : bworld w1 l = W at *
  have Hby := hide hby
  clear hby hW
  go_wp2
  go_loopw [5, 13] (fun a i wr => ∃ k : Nat, k ≤ l.length ∧ a = .int .u64 (pNum (l.take k) : Int) ∧ i = .int .i64 (k : Int) ∧ wr = W) (fun _ i _ => l.length - (intOf i).toNat)
  case atStart => exact ⟨0, by omega, rfl, rfl, rfl⟩
  case round =>
    obtain ⟨k, hk, rfl, rfl, rfl⟩ := hrel
    by_cases hlt : k < l.length
    · have c := unhide Hby k hlt
      rw [Nat.zero_add] at c
      have hsn := take_snoc' l k 0 hlt
      generalize hb : l.getD k 0 = b at *
      have hpn := pNum_snoc (l.take k) b
      rw [← hsn] at hpn
      have hlt2 := pNum_lt (l.take k)
      have hm : pNum (l.take k) < 72057594037927936 := Nat.lt_of_lt_of_le hlt2 (by
        have : (l.take k).length ≤ 7 := by simp; omega
        calc 256 ^ (l.take k).length ≤ 256 ^ 7 := Nat.pow_le_pow_right (by decide) this
          _ = 72057594037927936 := by decide)
      generalize pNum (l.take k) = m at *
      have hb8 := b.toNat_lt
      have hd : decide (k < l.length) = true := by simpa using hlt
      have b1 : (k : Int) < (l.length : Int) := by omega
      have Hpn := hide hpn
      clear hpn hsn hb hlt2
      go_wp2
      go_roundw
      case rel =>
        refine ⟨k + 1, by omega, ?_, by go_num, trivial⟩
        rw [unhide Hpn]
        rw [or256 m b.toNat hm hb8]
      case measure => simp [intOf]; omega
    · obtain rfl : k = l.length := by omega
      have hd : decide (l.length < l.length) = false := by simp
      rw [List.take_length]
      go_wp2
      go_ret
      exact ⟨rfl, w1, hR, hbb⟩
/-- The number of so many bytes, and the reader behind it. -/
def Rd.num (r : Rd) (n : Nat) : Nat × Rd := (pNum (r.take n).1, (r.take n).2)
theorem Rd.take_length (r : Rd) (n : Nat) : (r.take n).1.length ≤ n := by
  unfold Rd.take
  split
  · simp
  · split
    · simp
    · simp; omega
theorem Rd.take_rest (r : Rd) (n : Nat) : (r.take n).2.rest.length ≤ r.rest.length := by
  unfold Rd.take
  split
  · simp
  · split
    · simp
    · simp
theorem Rd.num_lt (r : Rd) (n : Nat) : (r.num n).1 < 256 ^ n := Nat.lt_of_lt_of_le (pNum_lt _) (Nat.pow_le_pow_right (by decide) (r.take_length n))
theorem rnumber_calls (g n : Nat) (hn : n ≤ 8) (r : Rd) (hl : r.rest.length ≤ 4611686018427387904) (w : World) (h : RdAt w g r) :
    Calls Try.prog 58 #[.pointer (some ⟨g, 0, none⟩), .int .i64 (n : Int)] w fun e w' => e = .returned (.int .u64 ((r.num n).1 : Int)) ∧ RdAt w' g (r.num n).2 ∧ Turned g w w' := by
  refine (rnumber_of _ n (r.take n).1 (Nat.le_trans (r.take_length n) hn) (fun w1 => RdAt w1 g (r.take n).2 ∧ Turned g w w1) w (take_calls g n (by omega) r hl w h)).mono ?_
  rintro e w' ⟨rfl, w1, ⟨h1, t1⟩, hb⟩
  exact ⟨rfl, h1.below hb, t1.trans (Turned.of_below hb (Nat.le_of_lt h1.lt))⟩
theorem rnumber_nil (n : Nat) (hn : n ≤ 8) (w : World) :
    Calls Try.prog 58 #[.pointer none, .int .i64 (n : Int)] w fun e w' => e = .returned (.int .u64 0) ∧ Below w.heap.size w w' := by
  refine (rnumber_of _ n [] (by simp) (fun w1 => w1 = w) w (take_nil n (by omega) w)).mono ?_
  rintro e w' ⟨rfl, w1, rfl, hb⟩
  exact ⟨rfl, hb⟩
theorem rbyte_calls (g : Nat) (r : Rd) (hl : r.rest.length ≤ 4611686018427387904) (w : World) (h : RdAt w g r) :
    Calls Try.prog 46 #[.pointer (some ⟨g, 0, none⟩)] w fun e w' => e = .returned (.int .u8 ((r.num 1).1 : Int)) ∧ RdAt w' g (r.num 1).2 ∧ Turned g w w' := by
  have hc := rnumber_calls g 1 (by decide) r hl w h
  have hlt := r.num_lt 1
  generalize (r.num 1).2 = r1 at *
  generalize (r.num 1).1 = m at *
  have Hc := hide hc
  have hm : m < 256 := hlt
  clear hc h hlt
  go_enter Try.func46, Try.ntmps46
  go_wp2_with fail
  refine (unhide Hc).mono ?_
  rintro e w' ⟨rfl, h1, t1⟩
  go_wp2
  go_ret
  exact ⟨rfl, h1, t1⟩
theorem rword_calls (g : Nat) (r : Rd) (hl : r.rest.length ≤ 4611686018427387904) (w : World) (h : RdAt w g r) :
    Calls Try.prog 47 #[.pointer (some ⟨g, 0, none⟩)] w fun e w' => e = .returned (.int .u32 ((r.num 4).1 : Int)) ∧ RdAt w' g (r.num 4).2 ∧ Turned g w w' := by
  have hc := rnumber_calls g 4 (by decide) r hl w h
  have hlt := r.num_lt 4
  generalize (r.num 4).2 = r1 at *
  generalize (r.num 4).1 = m at *
  have Hc := hide hc
  have hm : m < 4294967296 := hlt
  clear hc h hlt
  go_enter Try.func47, Try.ntmps47
  go_wp2_with fail
  refine (unhide Hc).mono ?_
  rintro e w' ⟨rfl, h1, t1⟩
  go_wp2
  go_ret
  exact ⟨rfl, h1, t1⟩
theorem rlong_calls (g : Nat) (r : Rd) (hl : r.rest.length ≤ 4611686018427387904) (w : World) (h : RdAt w g r) :
    Calls Try.prog 49 #[.pointer (some ⟨g, 0, none⟩)] w fun e w' => e = .returned (.int .u64 ((r.num 8).1 : Int)) ∧ RdAt w' g (r.num 8).2 ∧ Turned g w w' := by
  have hc := rnumber_calls g 8 (by decide) r hl w h
  generalize (r.num 8).2 = r1 at *
  generalize (r.num 8).1 = m at *
  have Hc := hide hc
  clear hc h
  go_enter Try.func49, Try.ntmps49
  go_wp2_with fail
  refine (unhide Hc).mono ?_
  rintro e w' ⟨rfl, h1, t1⟩
  go_wp2
  go_ret
  exact ⟨rfl, h1, t1⟩
theorem rbyte_nil (w : World) :
    Calls Try.prog 46 #[.pointer none] w fun e w' => e = .returned (.int .u8 0) ∧ Below w.heap.size w w' := by
  go_enter Try.func46, Try.ntmps46
  go_wp2_with fail
  refine (rnumber_nil 1 (by decide) _).mono ?_
  rintro e w' ⟨rfl, hb⟩
  go_wp2
  go_ret
  exact ⟨rfl, hb⟩
theorem rword_nil (w : World) :
    Calls Try.prog 47 #[.pointer none] w fun e w' => e = .returned (.int .u32 0) ∧ Below w.heap.size w w' := by
  go_enter Try.func47, Try.ntmps47
  go_wp2_with fail
  refine (rnumber_nil 4 (by decide) _).mono ?_
  rintro e w' ⟨rfl, hb⟩
  go_wp2
  go_ret
  exact ⟨rfl, hb⟩
theorem rlong_nil (w : World) :
    Calls Try.prog 49 #[.pointer none] w fun e w' => e = .returned (.int .u64 0) ∧ Below w.heap.size w w' := by
  go_enter Try.func49, Try.ntmps49
  go_wp2_with fail
  refine (rnumber_nil 8 (by decide) _).mono ?_
  rintro e w' ⟨rfl, hb⟩
  go_wp2
  go_ret
  exact ⟨rfl, hb⟩
/-- A word that is at most so much. -/
def Rd.len (r : Rd) (most : Int) : Nat × Rd := ((r.num 4).1, if 0 < (r.num 4).1 ∧ most < ((r.num 4).1 : Int) then (r.num 4).2.fail 5 else (r.num 4).2)
theorem Rd.len_lt (r : Rd) (most : Int) : (r.len most).1 < 4294967296 := r.num_lt 4
set_option maxHeartbeats 400000 in
theorem rlength_calls (g : Nat) (r : Rd) (hl : r.rest.length ≤ 4611686018427387904) (most : Int) (w : World) (h : RdAt w g r) :
    Calls Try.prog 60 #[.pointer (some ⟨g, 0, none⟩), .int .i64 most] w fun e w' => e = .returned (.int .i64 ((r.len most).1 : Int)) ∧ RdAt w' g (r.len most).2 ∧ Turned g w w' := by
  have hc := rword_calls g r hl w h
  have hlt := r.num_lt 4
  unfold Rd.len
  generalize (r.num 4).2 = r1 at *
  generalize (r.num 4).1 = m at *
  have Hc := hide hc
  have hm : m < 4294967296 := hlt
  clear hc h hlt
  by_cases h0 : 0 < m
  · have d0 : decide (0 < m) = true := by simpa using h0
    by_cases h1 : most < (m : Int)
    · have d1 : decide (most < (m : Int)) = true := by simpa using h1
      have hr : (if 0 < m ∧ most < (m : Int) then r1.fail 5 else r1) = r1.fail 5 := by simp [h0, h1]
      simp only [hr]
      clear hr h0 h1
      go_enter Try.func60, Try.ntmps60
      go_wp2_with fail
      refine (unhide Hc).mono ?_
      rintro e w1 ⟨rfl, h1, t1⟩
      go_wp2_with fail
      refine (fail_calls g r1 5 _ h1).mono ?_
      rintro e w2 ⟨rfl, h2, t2⟩
      go_wp2
      go_ret
      exact ⟨rfl, h2, t1.trans t2⟩
    · have d1 : decide (most < (m : Int)) = false := by simpa using h1
      have hr : (if 0 < m ∧ most < (m : Int) then r1.fail 5 else r1) = r1 := by simp [h0, h1]
      simp only [hr]
      clear hr h0 h1
      go_enter Try.func60, Try.ntmps60
      go_wp2_with fail
      refine (unhide Hc).mono ?_
      rintro e w1 ⟨rfl, h1, t1⟩
      go_wp2
      go_ret
      exact ⟨rfl, h1, t1⟩
  · have d0 : decide (0 < m) = false := by simpa using h0
    have hr : (if 0 < m ∧ most < (m : Int) then r1.fail 5 else r1) = r1 := by simp [h0]
    simp only [hr]
    clear hr h0
    go_enter Try.func60, Try.ntmps60
    go_wp2_with fail
    refine (unhide Hc).mono ?_
    rintro e w1 ⟨rfl, h1, t1⟩
    go_wp2
    go_ret
    exact ⟨rfl, h1, t1⟩
theorem rlength_nil (most : Int) (w : World) :
    Calls Try.prog 60 #[.pointer none, .int .i64 most] w fun e w' => e = .returned (.int .i64 0) ∧ Below w.heap.size w w' := by
  go_enter Try.func60, Try.ntmps60
  go_wp2_with fail
  refine (rword_nil _).mono ?_
  rintro e w' ⟨rfl, hb⟩
  go_wp2
  go_ret
  exact ⟨rfl, hb⟩
theorem Rd.fail_rest (r : Rd) (e : Int) : (r.fail e).rest = r.rest := by unfold Rd.fail; split <;> rfl
theorem Rd.len_rest (r : Rd) (most : Int) : (r.len most).2.rest.length ≤ r.rest.length := by
  unfold Rd.len
  have := r.take_rest 4
  split
  · rw [Rd.fail_rest]; exact this
  · exact this
/-- A text of at most so many bytes. -/
def Rd.text (r : Rd) (most : Int) : List UInt8 × Rd := (r.len most).2.take (r.len most).1
theorem rdtext_calls (g : Nat) (r : Rd) (hl : r.rest.length ≤ 4611686018427387904) (most : Int) (w : World) (h : RdAt w g r) :
    Calls Try.prog 48 #[.pointer (some ⟨g, 0, none⟩), .int .i64 most] w fun e w' => e = .returned (.string (str (r.text most).1)) ∧ RdAt w' g (r.text most).2 ∧ Turned g w w' := by
  have hc := rlength_calls g r hl most w h
  have hlt := r.len_lt most
  have hrs := r.len_rest most
  unfold Rd.text
  generalize (r.len most).2 = r1 at *
  generalize (r.len most).1 = m at *
  have Hc := hide hc
  clear hc h
  go_enter Try.func48, Try.ntmps48
  go_wp2_with fail
  refine (unhide Hc).mono ?_
  rintro e w1 ⟨rfl, h1, t1⟩
  go_wp2_with fail
  refine (take_calls g m (by omega) r1 (by omega) _ h1).mono ?_
  rintro e w2 ⟨rfl, h2, t2⟩
  go_wp2
  go_ret
  exact ⟨rfl, h2, t1.trans t2⟩
theorem rdtext_nil (most : Int) (w : World) :
    Calls Try.prog 48 #[.pointer none, .int .i64 most] w fun e w' => e = .returned (.string (str [])) ∧ Below w.heap.size w w' := by
  go_enter Try.func48, Try.ntmps48
  go_wp2_with fail
  refine (rlength_nil most _).mono ?_
  rintro e w1 ⟨rfl, hb⟩
  go_wp2_with fail
  refine (take_nil 0 (by omega) _).mono ?_
  rintro e w2 ⟨rfl, rfl⟩
  go_wp2
  go_ret
  exact ⟨rfl, hb⟩
end Go.Proofs.Ytlanplknendmaaa
