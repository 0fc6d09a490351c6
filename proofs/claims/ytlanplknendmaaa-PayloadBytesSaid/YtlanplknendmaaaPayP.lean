/-
  PAYLOADS, PLAIN: their bytes, the payload that bytes are, and back.
-/
import Derived.Test.YtlanplknendmaaaLetP
import Derived.Test.YtlanplknendmaaaNameSays
namespace Go.Proofs.Ytlanplknendmaaa
open Go.RowKit
set_option linter.unusedSimpArgs false
set_option linter.unusedVariables false

/-- What may be said has at most 256 bytes. -/
theorem pSays_len (l : List UInt8) (h : pSays l = true) : l.length ≤ 256 := by
  have h1 := itemsFrom_four (str l) l.length 0 (by rw [str_size]; omega)
  rw [str_size] at h1
  simp only [pSays, Bool.and_eq_true, decide_eq_true_eq] at h
  have h2 := h.2
  unfold items at h2
  omega
/-- A payload, nothing, or a number. -/
inductive Pl where
  | no | num
  | tr (o : Nat) (a b : List UInt8) (n : Nat)
  | sa (a b : List UInt8)
  | de (o : Nat) (a : List UInt8) (n : Nat)
def trCells (o : Nat) (a b : List UInt8) (n : Nat) : Array Value := #[.int .u32 (o : Int), .string (str a), .string (str b), .int .u64 (n : Int)]
def saCells (a b : List UInt8) : Array Value := #[.string (str a), .string (str b)]
def deCells (o : Nat) (a : List UInt8) (n : Nat) : Array Value := #[.int .u32 (o : Int), .string (str a), .int .u64 (n : Int)]
def Pl.val : Pl → Value
  | .no => .nilIface
  | .num => .iface 3 (.int .i64 7)
  | .tr o a b n => .iface 44 (.agg (trCells o a b n))
  | .sa a b => .iface 51 (.agg (saCells a b))
  | .de o a n => .iface 53 (.agg (deCells o a n))
def Pl.ok : Pl → Prop
  | .tr o _ _ n => o < 4294967296 ∧ n < 18446744073709551616
  | .de o _ n => o < 4294967296 ∧ n < 18446744073709551616
  | _ => True
/-- Its texts have at most so many bytes. -/
def Pl.most (m : Nat) : Pl → Prop
  | .tr _ a b _ => a.length ≤ m ∧ b.length ≤ m
  | .sa a b => a.length ≤ m ∧ b.length ≤ m
  | .de _ a _ => a.length ≤ m
  | _ => True
def Pl.tag : Pl → Nat
  | .tr .. => 1
  | .sa .. => 2
  | .de .. => 3
  | _ => 0
def Pl.right : Pl → Bool
  | .tr _ a b n => if pRight a then (if pRight b then !decide (n = 0) else false) else false
  | .sa a b => if pRight a then pSays b else false
  | .de _ a _ => pRight a
  | _ => false
def Pl.fields : Pl → List UInt8
  | .tr o a b n => pBig o 4 ++ (pText4 a ++ (pText4 b ++ pBig n 8))
  | .sa a b => pText4 a ++ pText4 b
  | .de o a n => pBig o 4 ++ (pText4 a ++ pBig n 8)
  | _ => []
def Pl.bytes (p : Pl) : List UInt8 × Int := if p.tag = 0 then ([], 2) else if p.right then (pBig p.tag 1 ++ p.fields, 0) else ([], 4)

def Rd.tr (r : Rd) : Pl := .tr (r.num 4).1 ((r.num 4).2.text 48).1 (((r.num 4).2.text 48).2.text 48).1 ((((r.num 4).2.text 48).2.text 48).2.num 8).1
def Rd.trR (r : Rd) : Rd := ((((r.num 4).2.text 48).2.text 48).2.num 8).2
def Rd.sa (r : Rd) : Pl := .sa (r.text 48).1 ((r.text 48).2.text 256).1
def Rd.saR (r : Rd) : Rd := ((r.text 48).2.text 256).2
def Rd.de (r : Rd) : Pl := .de (r.num 4).1 ((r.num 4).2.text 48).1 (((r.num 4).2.text 48).2.num 8).1
def Rd.deR (r : Rd) : Rd := (((r.num 4).2.text 48).2.num 8).2
/-- A payload off the front. -/
def Rd.pl (r : Rd) : Pl × Rd :=
  if (r.num 1).1 = 1 then ((r.num 1).2.tr, (r.num 1).2.trR) else
  if (r.num 1).1 = 2 then ((r.num 1).2.sa, (r.num 1).2.saR) else
  if (r.num 1).1 = 3 then ((r.num 1).2.de, (r.num 1).2.deR) else (.no, (r.num 1).2.fail 4)
/-- The payload that bytes are, and what is wrong with them. -/
def pPRead (l : List UInt8) : Pl × Int :=
  if (⟨l, 0⟩ : Rd).pl.2.end' ≠ 0 then (.no, (⟨l, 0⟩ : Rd).pl.2.end') else if (⟨l, 0⟩ : Rd).pl.1.right then ((⟨l, 0⟩ : Rd).pl.1, 0) else (.no, 4)

theorem Rd.num_lt8 (r : Rd) : (r.num 8).1 < 18446744073709551616 := Rd.num_lt r 8
theorem Rd.pl_ok (r : Rd) : r.pl.1.ok := by
  unfold Rd.pl
  split
  · exact ⟨Rd.num_lt _ 4, Rd.num_lt _ 8⟩
  · split
    · trivial
    · split
      · exact ⟨Rd.num_lt _ 4, Rd.num_lt _ 8⟩
      · trivial
theorem Rd.pl_most (r : Rd) : r.pl.1.most r.rest.length := by
  have h1 := r.num_rest 1
  have h2 := (r.num 1).2.num_rest 4
  have h3 := ((r.num 1).2.num 4).2.text_rest 48
  have h4 := (r.num 1).2.text_rest 48
  have l1 := ((r.num 1).2.num 4).2.text_len 48
  have l2 := (((r.num 1).2.num 4).2.text 48).2.text_len 48
  have l3 := (r.num 1).2.text_len 48
  have l4 := ((r.num 1).2.text 48).2.text_len 256
  unfold Rd.pl
  split
  · refine ⟨?_, ?_⟩ <;> omega
  · split
    · refine ⟨?_, ?_⟩ <;> omega
    · split
      · show _ ≤ _
        omega
      · trivial
theorem pPRead_ok (l : List UInt8) : (pPRead l).1.ok ∧ (pPRead l).1.most l.length := by
  unfold pPRead
  split
  · exact ⟨trivial, trivial⟩
  · split
    · exact ⟨Rd.pl_ok _, Rd.pl_most _⟩
    · exact ⟨trivial, trivial⟩
theorem tr_right (o : Nat) (a b : List UInt8) (n : Nat) : (Pl.tr o a b n).right = true ↔ pRight a = true ∧ pRight b = true ∧ n ≠ 0 := by
  simp only [Pl.right]
  cases pRight a <;> cases pRight b <;> simp
theorem sa_right (a b : List UInt8) : (Pl.sa a b).right = true ↔ pRight a = true ∧ pSays b = true := by
  simp only [Pl.right]
  cases pRight a <;> simp
theorem num_back' (n k : Nat) (h : n < 256 ^ k) : (⟨pBig n k, 0⟩ : Rd).num k = (n, ⟨[], 0⟩) := by
  have := num_back n k h []
  rwa [List.append_nil] at this
/-- What is written is read as it was. -/
theorem pl_back (p : Pl) (h : p.ok) (e : p.bytes.2 = 0) : pPRead p.bytes.1 = (p, 0) ∧ p.tag ≠ 0 := by
  have ht : p.tag ≠ 0 := fun h0 => by simp [Pl.bytes, h0] at e
  have hr : p.right = true := by
    cases hr : p.right with
    | true => rfl
    | false => simp [Pl.bytes, ht, hr] at e
  refine ⟨?_, ht⟩
  have eb : p.bytes.1 = pBig p.tag 1 ++ p.fields := by simp [Pl.bytes, ht, hr]
  have e0 : (⟨p.bytes.1, 0⟩ : Rd).num 1 = (p.tag, ⟨p.fields, 0⟩) := by
    rw [eb]
    exact num_back _ 1 (by cases p <;> simp [Pl.tag]) _
  have key : (⟨p.bytes.1, 0⟩ : Rd).pl = (p, ⟨[], 0⟩) := by
    unfold Rd.pl
    rw [e0]
    cases p with
    | no => exact absurd rfl ht
    | num => exact absurd rfl ht
    | tr o a b n =>
      obtain ⟨r1, r2, r3⟩ := (tr_right o a b n).1 hr
      have n1 := pRight_len _ r1
      have n2 := pRight_len _ r2
      have k1 := num_back o 4 h.1 (pText4 a ++ (pText4 b ++ pBig n 8))
      have k2 := text_back' a (pText4 b ++ pBig n 8) 48 (by omega) (by omega)
      have k3 := text_back' b (pBig n 8) 48 (by omega) (by omega)
      have k4 := num_back' n 8 h.2
      simp only [Pl.tag, Pl.fields, Rd.tr, Rd.trR, if_true, k1, k2, k3, k4]
    | sa a b =>
      obtain ⟨r1, r2⟩ := (sa_right a b).1 hr
      have n1 := pRight_len _ r1
      have n2 := pSays_len _ r2
      have k2 := text_back' a (pText4 b) 48 (by omega) (by omega)
      have k3 := text_back' b [] 256 (by omega) (by omega)
      rw [List.append_nil] at k3
      simp only [Pl.tag, Pl.fields, Rd.sa, Rd.saR, if_true, k2, k3]
      rfl
    | de o a n =>
      have n1 := pRight_len a hr
      have k1 := num_back o 4 h.1 (pText4 a ++ pBig n 8)
      have k2 := text_back' a (pBig n 8) 48 (by omega) (by omega)
      have k4 := num_back' n 8 h.2
      simp only [Pl.tag, Pl.fields, Rd.de, Rd.deR, if_true, k1, k2, k4]
      rfl
  unfold pPRead
  rw [key]
  simp [Rd.end', hr]
theorem Rd.pl_read (r : Rd) (he : r.pl.2.end' = 0) (hr : r.pl.1.right = true) : pBig r.pl.1.tag 1 ++ r.pl.1.fields = r.rest ∧ r.pl.1.tag ≠ 0 := by
  obtain ⟨o, z⟩ := Rd.end_ok _ he
  clear he
  by_cases hb : (r.num 1).1 = 1
  · have e : r.pl = ((r.num 1).2.tr, (r.num 1).2.trR) := by unfold Rd.pl; rw [if_pos hb]
    rw [e] at o z hr ⊢
    simp only [Rd.trR, Rd.tr] at o z hr ⊢
    obtain ⟨o3, t4⟩ := Rd.num_ok _ _ o
    obtain ⟨o2, t3⟩ := Rd.text_ok _ _ o3
    obtain ⟨o1, t2⟩ := Rd.text_ok _ _ o2
    obtain ⟨o0, t1⟩ := Rd.num_ok _ _ o1
    obtain ⟨_, t0⟩ := Rd.num_ok _ _ o0
    rw [z, List.append_nil] at t4
    rw [hb] at t0
    refine ⟨?_, by simp [Pl.tag]⟩
    simp only [Pl.tag, Pl.fields]
    rw [← t4, ← t3, ← t2, ← t1, ← t0]
  · by_cases hc : (r.num 1).1 = 2
    · have e : r.pl = ((r.num 1).2.sa, (r.num 1).2.saR) := by unfold Rd.pl; rw [if_neg hb, if_pos hc]
      rw [e] at o z hr ⊢
      simp only [Rd.saR, Rd.sa] at o z hr ⊢
      obtain ⟨o2, t3⟩ := Rd.text_ok _ _ o
      obtain ⟨o1, t2⟩ := Rd.text_ok _ _ o2
      obtain ⟨_, t0⟩ := Rd.num_ok _ _ o1
      rw [z, List.append_nil] at t3
      rw [hc] at t0
      refine ⟨?_, by simp [Pl.tag]⟩
      simp only [Pl.tag, Pl.fields]
      rw [← t3, ← t2, ← t0]
    · by_cases hd : (r.num 1).1 = 3
      · have e : r.pl = ((r.num 1).2.de, (r.num 1).2.deR) := by unfold Rd.pl; rw [if_neg hb, if_neg hc, if_pos hd]
        rw [e] at o z hr ⊢
        simp only [Rd.deR, Rd.de] at o z hr ⊢
        obtain ⟨o3, t4⟩ := Rd.num_ok _ _ o
        obtain ⟨o2, t3⟩ := Rd.text_ok _ _ o3
        obtain ⟨o1, t2⟩ := Rd.num_ok _ _ o2
        obtain ⟨_, t0⟩ := Rd.num_ok _ _ o1
        rw [z, List.append_nil] at t4
        rw [hd] at t0
        refine ⟨?_, by simp [Pl.tag]⟩
        simp only [Pl.tag, Pl.fields]
        rw [← t4, ← t3, ← t2, ← t0]
      · have e : r.pl = (.no, (r.num 1).2.fail 4) := by unfold Rd.pl; rw [if_neg hb, if_neg hc, if_neg hd]
        rw [e] at hr
        cases hr
/-- What is read is written so. -/
theorem pl_read (l : List UInt8) (h : (pPRead l).2 = 0) : (pPRead l).1.bytes = (l, 0) := by
  unfold pPRead at *
  split at h
  · rename_i hn; exact absurd h hn
  · rename_i hn
    have he : (⟨l, 0⟩ : Rd).pl.2.end' = 0 := by
      apply Classical.byContradiction; exact hn
    split at h
    · rename_i hr
      rw [if_neg hn, if_pos hr]
      obtain ⟨a, b⟩ := Rd.pl_read _ he hr
      unfold Pl.bytes
      rw [if_neg b, if_pos hr, a]
    · cases h
end Go.Proofs.Ytlanplknendmaaa
