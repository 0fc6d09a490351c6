/-
  A WHOLE ROW LOADED WHERE A GUARD LETS IT. Over whatever program.
-/
/-
  == AND != OF TWO DIGESTS.
-/
/-
  LamportBinds: with another digest whose bits told are others a signature isn't opened to the key's word, unless two inputs clash.
-/
/-
  WHAT THE ROWS OF LAYER 1 LIST GIVES THE WALKS: the two tables of package sha, read as the program's text lays them.
-/
/-
  ARRAYS OF NUMBERS AS ARGUMENTS: what a row hands the walks. Over whatever program.
-/
/-
  A DIGEST AS THE ARGUMENT OF A ROW.
-/
import Derived.Test.YtdlgkmaknoaodaaDoorJ0
import Derived.Test.YtdlgkmaknoaodaaDoorJ2
import Derived.Test.YtdlgkmaknoaodaaDoorJ1
import Derived.Test.YtdlgkmaknoaodaaDoorJ4
import Derived.Test.YtdlgkmaknoaodaaDoorCards
import Derived.Test.YtdlgkmaknoaodaaDoorTie
import Derived.ProofKit
import Derived.OpenShut
import Derived.Deep.DeepHandedRow
import Derived.Lib.LaidTab
import Derived.WideKeyArr2
import Derived.ChangeMaps5
import Derived.Deep.Slices
import Derived.Lib.SmallJoins
namespace Go.Proofs.YtdlgkmaknoaodaaDoor
open Go Go.RowKit

theorem wpList_load_row_gd {P : Program} {ops : Array Oper} {rest : List Oper} {o : Oper} {a : Act} {w : World} {Q : Exit → Act → World → Prop} (hw : Region.wanted o (yielded ops a.tmps) = true) (ty : TypeId) (x : Operand) (ho : o.op = .load ty x)
    (g : Nat) (hx : a.eval x = .pointer (some ⟨g, 0, none⟩)) (t : TypeId) (cs : Array Value) (fr : Nat × Nat) (d : TypeDesc) (hg : w.heap[g]? = some (.cells cs t fr))
    (hu : P.underlying ty = some d) (hd : (match d with | .struct _ | .array _ _ => true | _ => false) = true) (hi : (P.info? ty).map (·.size) = some cs.size)
    (h : wpList P ops Q rest (a.put o.dst (.agg cs)) w) : wpList P ops Q (o :: rest) a w :=
  wpList_step fun K hK => by
    rw [if_pos hw]
    exact wp_load_row ty x ho g hx t cs fr d hg hu hd hi (hK _ _ h)
end Go.Proofs.YtdlgkmaknoaodaaDoor

namespace Go.Proofs.YtdlgkmaknoaodaaDoor
open Go Go.RowKit
set_option linter.unusedSimpArgs false
set_option linter.unusedVariables false

theorem keyLits_ints' {P : Program} (t e : TypeId) (n : Nat) (k : IntKind) (hu : P.underlying t = some (.array n e)) (he : P.underlying e = some (.int k)) (hce : P.cellsOf e = 1) (hct : P.cellsOf t = n)
    (zs : List Int) (hl : zs.length = n) (hw : ∀ z ∈ zs, (Lit.int k z).wf = true) : P.keyLits 2 t (zs.map (Value.int k)) = some (zs.map (Lit.int k)) := by
  unfold Program.keyLits
  simp only [hu]
  rw [if_pos (by simp [hl, hct])]
  rw [mapM_some _ (fun i => [Lit.int k (zs.getD i 0)]) _ (fun i hi => ?_)]
  · have e : ((List.range n).map fun i => [Lit.int k (zs.getD i 0)]).flatten = zs.map (Lit.int k) := by
      apply List.ext_getElem?
      intro i
      have e1 : ((List.range n).map fun i => [Lit.int k (zs.getD i 0)]).flatten = (List.range n).map fun i => Lit.int k (zs.getD i 0) := by
        induction (List.range n) with
        | nil => rfl
        | cons x l ih => rw [List.map_cons, List.flatten_cons, ih]; rfl
      rw [e1]
      by_cases hi : i < n
      · simp [hi, hl]
      · simp [hi, hl]
    show some _ = some _
    rw [← e]
  · have hi' : i < zs.length := by rw [hl]; exact List.mem_range.1 hi
    rw [hce, Nat.mul_one, List.drop_eq_getElem_cons (by simpa using hi')]
    unfold Program.keyLits
    simp only [he]
    have hz : (Lit.int k zs[i]).wf = true := hw _ (List.getElem_mem _)
    simp [hz, hi']
theorem dig_lits (d : List UInt8) (hd : d.length = 32) : Tryd.prog.keyLits 2 23 (bc d).toList = some ((d.map fun b => (b.toNat : Int)).map (Lit.int .u8)) := by
  have := keyLits_ints' (P := Tryd.prog) 23 5 32 .u8 Tryd.underlying23 Tryd.underlying5 (by kernel_rfl) (by kernel_rfl) (d.map fun b => (b.toNat : Int)) (by simpa using hd) (fun z hz => by
    obtain ⟨b, _, rfl⟩ := List.mem_map.1 hz
    have := b.toNat_lt
    simp [Lit.wf, IntKind.min, IntKind.max, IntKind.signed, IntKind.bits]; omega)
  rw [← this]; simp [bc, Lib.byteCells]; rfl
theorem dig_formed (d : List UInt8) (hd : d.length = 32) : (Value.agg (bc d)).formed Tryd.prog 23 = true := by
  simp only [Value.formed, Tryd.underlying23, bc_size, hd]; kernel_rfl
theorem lits_inj (a b : List UInt8) (h : (a.map fun b => (b.toNat : Int)).map (Lit.int .u8) = (b.map fun b => (b.toNat : Int)).map (Lit.int .u8)) : a = b := by
  rw [List.map_map, List.map_map] at h
  refine List.map_inj_right (f := fun b : UInt8 => Lit.int .u8 (b.toNat : Int)) (fun x y hxy => ?_) |>.1 h
  injection hxy with _ h2
  exact UInt8.toNat_inj.1 (by omega)
theorem dig_eq (a b : List UInt8) (ha : a.length = 32) (hb : b.length = 32) (w : World) : (binOp .eql 23 (.agg (bc a)) (.agg (bc b))).run Tryd.prog w = .ok (.bool (decide (a = b))) w := by
  obtain ⟨r, hr, hiff⟩ := run_equalIn_deep (P := Tryd.prog) (10000 - 2) 2 23 (by kernel_rfl) w 2 2 (.agg (bc a)) (.agg (bc b)) _ _ (dig_formed a ha) (dig_formed b hb) (dig_lits a ha) (dig_lits b hb)
  rw [show 10000 - 2 + 2 = 10000 by omega] at hr
  have : r = decide (a = b) := by
    by_cases h : a = b
    · rw [decide_eq_true h]; exact hiff.2 (by rw [h])
    · rw [decide_eq_false h]
      cases r with
      | false => rfl
      | true => exact absurd (lits_inj a b (hiff.1 rfl)) h
  rw [run_eql_struct, hr, this]; rfl
end Go.Proofs.YtdlgkmaknoaodaaDoor

namespace Go.Proofs.YtdlgkmaknoaodaaDoor
open Go Go.RowKit
set_option linter.unusedSimpArgs false
set_option linter.unusedVariables false

theorem wpList_eql_gm {P : Program} {ops : Array Oper} {rest : List Oper} {o : Oper} {a : Act} {w : World} {Q : Exit → Act → World → Prop} (hw : Region.wanted o (yielded ops a.tmps) = true) (t t' : TypeId) (x y : Operand) (ho : o.op = .binOp .eql t x y t')
    (u v : Array Value) (hx : a.eval x = .agg u) (hy : a.eval y = .agg v) (hgt : P.eqGuardType P.depth t = false) (b : Bool) (he : ∀ w, (binOp .eql t (.agg u) (.agg v)).run P w = .ok (.bool b) w)
    (h : wpList P ops Q rest (a.put o.dst (.bool b)) w) : wpList P ops Q (o :: rest) a w :=
  wpList_step fun K hK => by
    rw [if_pos hw]
    have hg : (eqGuard .eql t x y (.agg u) (.agg v)).run P w = .ok () w := run_eqGuard_agg w .eql t x y u v hgt
    unfold Oper.wp execOp
    simp only [ho, hx, hy, Sem.run_bind, hg, Result.andThen_ok, he]
    exact hK _ _ h
theorem wpList_neq_gm {P : Program} {ops : Array Oper} {rest : List Oper} {o : Oper} {a : Act} {w : World} {Q : Exit → Act → World → Prop} (hw : Region.wanted o (yielded ops a.tmps) = true) (t t' : TypeId) (x y : Operand) (ho : o.op = .binOp .neq t x y t')
    (u v : Array Value) (hx : a.eval x = .agg u) (hy : a.eval y = .agg v) (hgt : P.eqGuardType P.depth t = false) (b : Bool) (he : ∀ w, (binOp .neq t (.agg u) (.agg v)).run P w = .ok (.bool b) w)
    (h : wpList P ops Q rest (a.put o.dst (.bool b)) w) : wpList P ops Q (o :: rest) a w :=
  wpList_step fun K hK => by
    rw [if_pos hw]
    have hg : (eqGuard .neq t x y (.agg u) (.agg v)).run P w = .ok () w := run_eqGuard_agg w .neq t x y u v hgt
    unfold Oper.wp execOp
    simp only [ho, hx, hy, Sem.run_bind, hg, Result.andThen_ok, he]
    exact hK _ _ h
theorem dig_neqL (a b : List UInt8) (ha : a.length = 32) (hb : b.length = 32) (w : World) : (binOp .neq 23 (.agg (bc a)) (.agg (bc b))).run Tryd.prog w = .ok (.bool (!decide (a = b))) w := by
  have h := dig_eq a b ha hb w
  simp only [binOp, Op.equal] at h ⊢
  revert h
  simp only [Sem.run_bind]
  cases hh : (Op.equalIn Op.maxDepth 23 (.agg (bc a)) (.agg (bc b))).run Tryd.prog w with
  | ok v w' => intro h; simp [Result.andThen_ok] at h ⊢; obtain ⟨h1, h2⟩ := h; exact ⟨by simp [h1], h2⟩
  | halt e w' => intro h; simp [Result.andThen] at h
set_option maxHeartbeats 8000000 in
set_option maxRecDepth 100000 in
theorem lamportBinds_A (s d e : List UInt8) (hs : s.length = 32) (hd : d.length = 32) (he : e.length = 32) (x : Int) (index : Nat) (hx : x % 4294967296 = (index : Int)) (w : World) (tabs : Tabs w) (hall : ∀ j, j < 32 → pBit d j = pBit e j) :
    Calls Tryd.prog 5 #[.agg (bc s), .agg (bc d), .agg (bc e), .int .i64 x] w fun e w' => e = .returned (.bool true) ∧ Below w.heap.size w w' := by
  have hPl := pParts_length s index d 32
  have hOl := pOthers_length s index d 32
  have hW := pOf_length 3 [pubs s index 64]
  have hV := pOf_length 3 [pOpen e (pParts s index d 32) (pOthers s index d 32) 32]
  change (pWord s index).length = 32 at hW
  change (pWordOf (pOpen e (pParts s index d 32) (pOthers s index d 32) 32)).length = 32 at hV
  have hVW : pWordOf (pOpen e (pParts s index d 32) (pOthers s index d 32) 32) = pWord s index := by rw [open_same d e _ _ 32 hall]; exact open_word s index d
  have hEQ := hide fun W => dig_eq _ _ hV hW W
  rw [decide_eq_true hVW] at hEQ
  have hres : Hid (∀ b : Bool, (b = true ↔ ∀ j, j < 32 → pBit d j = pBit e j) → b = true) := hide fun b h => h.2 hall
  have hi0 := digInfo s hs
  have hi1 := digInfo d hd
  have hi2 := digInfo e he
  have hiW := digInfo (pWord s index) hW
  have hzW := zeroSize (pWord s index) hW
  have hiV := digInfo (pWordOf (pOpen e (pParts s index d 32) (pOthers s index d 32) 32)) hV
  have hzV := zeroSize (pWordOf (pOpen e (pParts s index d 32) (pOthers s index d 32) 32)) hV
  have CS := hide fun W t => sign_calls s hs d hd x index hx W t
  have CW := hide fun L S I hI W hL => rwordQ_calls s hs x index hx L S I hI W hL
  have CO := hide fun g1 g2 W h1 h2 b1 b2 t => opened_calls e he (pParts s index d 32) (pOthers s index d 32) hPl hOl g1 0 32 g2 0 32 W h1 h2 b1 b2 t
  have CR := hide fun g1 g2 L S I hI W hL h1 h2 n1 n2 b1 b2 => ropenedQ_calls e he (pParts s index d 32) (pOthers s index d 32) hPl hOl g1 0 32 g2 0 32 L S I hI W hL h1 h2 n1 n2 b1 b2
  have CB1 := hide fun i hi W => bit_calls d hd i hi W
  have CB2 := hide fun i hi W => bit_calls e he i hi W
  have CA := hide fun W t => lawake_calls W t
  have HT := hide tabs
  clear hall hPl hOl hV hW tabs hx hVW
  generalize pWordOf (pOpen e (pParts s index d 32) (pOthers s index d 32) 32) = DV at *
  generalize pWord s index = DW at *
  obtain ⟨q0, q1, q2⟩ := al3 w (.cells (bc s) 23) (.cells (bc d) 23) (.cells (bc e) 23)
  have b0 := bel3 w (.cells (bc s) 23) (.cells (bc d) 23) (.cells (bc e) 23)
  have sX : (((w.alloc (.cells (bc s) 23)).alloc (.cells (bc d) 23)).alloc (.cells (bc e) 23)).heap.size = w.heap.size + 1 + 1 + 1 := by simp
  obtain ⟨X, hX⟩ : ∃ X, ((w.alloc (.cells (bc s) 23)).alloc (.cells (bc d) 23)).alloc (.cells (bc e) 23) = X := ⟨_, rfl⟩
  rw [hX] at q0 q1 q2 b0 sX
  have HX := hide hX
  have SX := hide sX
  have TX := (unhide HT).below b0 (Nat.le_refl _)
  have B0 := hide b0
  clear hX sX b0
  go_enter Tryd.func5, Tryd.ntmps5
  go_upto_region 1 with fail
  change Code.wp _ _ _ _ (((w.alloc (.cells (bc s) 23)).alloc (.cells (bc d) 23)).alloc (.cells (bc e) 23))
  rw [unhide HX]
  go_wp2_with fail
  refine (unhide CA _ TX).mono ?_
  rintro e1 w1 ⟨rfl, b1⟩
  have p0 := hide (Below.at b1 (Array.getElem?_eq_some_iff.1 q0).1 q0)
  have p1 := hide (Below.at b1 (Array.getElem?_eq_some_iff.1 q1).1 q1)
  have p2 := hide (Below.at b1 (Array.getElem?_eq_some_iff.1 q2).1 q2)
  have B1 := hide ((unhide B0).trans (b1.mono (unhide B0).size))
  have T1 := hide (TX.below b1 (Nat.le_refl _))
  have z1 : w.heap.size + 1 + 1 < w1.heap.size := (Array.getElem?_eq_some_iff.1 (unhide p2)).1
  have Z1 := hide z1
  clear q0 q1 q2 b1 TX z1
  go_wp2_with fail
  refine (rnewLog_calls _).mono ?_
  rintro e1 w4 ⟨rfl, hL4, b4, z4⟩
  obtain ⟨L, hLL⟩ : ∃ B, w1.heap.size + 1 = B := ⟨_, rfl⟩
  obtain ⟨S4, hS4⟩ : ∃ S : Nat → Prop, (fun k => w1.heap.size ≤ k ∧ k < w1.heap.size + 2) = S := ⟨_, rfl⟩
  have HS4 : Hid (∀ k, S4 k → w1.heap.size ≤ k) := hide fun k h => by rw [← hS4] at h; exact h.1
  rw [hLL, hS4] at hL4
  rw [hLL]
  have L4 := hide hL4
  have B4 := hide b4
  have q0 := Below.at b4 (by have := unhide Z1; omega) (unhide p0)
  have q1 := Below.at b4 (by have := unhide Z1; omega) (unhide p1)
  clear hL4 b4 z4 hLL hS4
  go_wp2_with (first
    | (refine wpList_load_row rfl 23 (.tmp 4) rfl w.heap.size rfl 23 _ (0, 0) _ q0 Tryd.underlying23 rfl hi0 ?_)
    | (refine wpList_load_row rfl 23 (.tmp 5) rfl (w.heap.size + 1) rfl 23 _ (0, 0) _ q1 Tryd.underlying23 rfl hi1 ?_))
  refine (unhide CS _ ((unhide T1).below (unhide B4) (Nat.le_refl _))).mono ?_
  rintro e1 w5 ⟨g, hg, rfl, b5, g1, g2⟩
  have zz4 : w1.heap.size ≤ w4.heap.size := (unhide B4).size
  have B5 := hide ((unhide B4).trans (b5.mono zz4))
  have L5 := hide ((unhide L4).below b5)
  have HG := hide hg
  have G1 := hide g1
  have G2 := hide g2
  have hgS : Hid (∀ S : Nat → Prop, (∀ k, S k → S4 k ∨ w5.heap.size ≤ k) → ¬ S g ∧ ¬ S (g + 1)) := hide fun S h => ⟨fun h1 => (h _ h1).elim (fun h2 => by have := (unhide L4).old _ h2; omega) (fun h2 => by have := (Array.getElem?_eq_some_iff.1 (unhide G1)).1; omega), fun h1 => (h _ h1).elim (fun h2 => by have := (unhide L4).old _ h2; omega) (fun h2 => by have := (Array.getElem?_eq_some_iff.1 (unhide G2)).1; omega)⟩
  have q0 := Below.at (unhide B5) (by have := unhide Z1; omega) (unhide p0)
  clear b5 g1 g2 hg q1
  go_wp2_with (refine wpList_load_row rfl 23 (.tmp 4) rfl w.heap.size rfl 23 _ (0, 0) _ q0 Tryd.underlying23 rfl hi0 ?_)
  refine (unhide CW L S4 [] (by simp) _ (unhide L5)).mono ?_
  rintro e1 w6 ⟨rfl, S6, I6, hL6, bu6, hs6, _, nt6, le6⟩
  have zz5 : w1.heap.size ≤ w5.heap.size := (unhide B5).size
  have B6 := hide ((unhide B5).trans (bu6.to_below w1.heap.size (unhide HS4) zz5))
  have HS6 : Hid (∀ k, S6 k → w1.heap.size ≤ k) := hide fun k h => (hs6 k h).elim (unhide HS4 k) (Nat.le_trans zz5)
  have zz6 : w1.heap.size ≤ w6.heap.size := (unhide B6).size
  have L6 := hide hL6
  have NT6 := hide nt6
  have LE6 := hide le6
  have n6 := hide (unhide hgS S6 hs6)
  have G61 := hide ((bu6.block g (Array.getElem?_eq_some_iff.1 (unhide G1)).1 (unhide hgS S4 (fun k h => .inl h)).1).trans (unhide G1))
  have G62 := hide ((bu6.block (g + 1) (Array.getElem?_eq_some_iff.1 (unhide G2)).1 (unhide hgS S4 (fun k h => .inl h)).2).trans (unhide G2))
  clear hL6 bu6 hs6 nt6 le6 q0
  go_upto_region 7 with (refine wpList_store_new rfl 23 (.tmp 12) (.tmp 30) rfl w6 _ _ DW rfl rfl hiW hzW ?_; intro w7 q12 b7 y7)
  have B7 := hide ((unhide B6).trans (b7.mono zz6))
  have zz7 : w1.heap.size ≤ w7.heap.size := (unhide B7).size
  have L7 := hide ((unhide L6).below b7)
  have Q12 := hide q12
  have G71 := hide (Below.at b7 (Array.getElem?_eq_some_iff.1 (unhide G61)).1 (unhide G61))
  have G72 := hide (Below.at b7 (Array.getElem?_eq_some_iff.1 (unhide G62)).1 (unhide G62))
  obtain ⟨G12, hG12⟩ : ∃ y, w6.heap.size = y := ⟨_, rfl⟩
  rw [hG12] at Q12
  simp only [hG12]
  have n12 : Hid (¬ S6 G12) := hide fun h => by have := (unhide L6).old _ h; omega
  clear q12 b7 y7
  go_wp2
  go_loopw [13, 14, 31] (fun sm _ i wr => ∃ (k : Nat) (b : Bool), k ≤ 32 ∧ i = .int .i64 (k : Int) ∧ sm = .bool b ∧ Hid (b = true ↔ ∀ j, j < k → pBit d j = pBit e j) ∧ Below w7.heap.size w7 wr) (fun _ _ i _ => 32 - (intOf i).toNat)
  case atStart => exact ⟨0, true, by omega, rfl, rfl, hide (by simp), Below.refl _ _⟩
  case round =>
    obtain ⟨k, b, hk, rfl, rfl, hb, bl⟩ := hrel
    by_cases hlt : k < 32
    · have hd1 : decide ((k : Int) < 32) = true := by simp; omega
      have BL := hide bl
      have HLT := hide hlt
      clear bl hlt
      cases b with
      | false =>
        have hn : Hid (false = true ↔ ∀ j, j < k + 1 → pBit d j = pBit e j) := hide ⟨fun h => (by cases h), fun h => (unhide hb).2 (fun j hj => h j (by omega))⟩
        go_wp2_with fail
        refine wp_region_below mixed (by kernel_rfl) ?_
        quiet_step (fail)
        quiet_step (fail)
        repeat (go_big_quiet_step (fail))
        refine wpQuiet_nil ?_
        intro w8 b8
        have BL8 := (unhide BL).trans (b8.mono (unhide BL).size)
        go_wp2
        go_roundw
        case rel => exact ⟨k + 1, false, by have := unhide HLT; omega, by go_num, rfl, hn, BL8⟩
        case measure => have := unhide HLT; simp [intOf]; omega
      | true =>
        obtain ⟨r, hr⟩ : ∃ r, decide (pBit d k = pBit e k) = r := ⟨_, rfl⟩
        have hn : Hid (r = true ↔ ∀ j, j < k + 1 → pBit d j = pBit e j) := hide (by
          have h0 := (unhide hb).1 rfl
          rw [← hr, decide_eq_true_iff]
          constructor
          · intro h j hj
            by_cases e' : j = k
            · rw [e']; exact h
            · exact h0 j (by omega)
          · intro h; exact h k (by omega))
        have hr2 : (((pBit d k : Nat) : Int) == ((pBit e k : Nat) : Int)) = r := by
          rw [← hr, Bool.eq_iff_iff]; simp; constructor <;> intro h <;> omega
        have qd := Below.at ((unhide B7).trans ((unhide BL).mono zz7)) (by have := unhide Z1; omega) (unhide p1)
        have qe := Below.at ((unhide B7).trans ((unhide BL).mono zz7)) (by have := unhide Z1; omega) (unhide p2)
        have RD : Hid (∀ w', (∃ p : Regrown, w' = Sort.grow (redrawn wr p.d) p.os) → w'.heap[w.heap.size + 1]? = some (.cells (bc d) 23 (0, 0))) := fun w' ⟨p, hp⟩ => by rw [hp]; exact Below.at (below_regrown wr p.d p.os) (Array.getElem?_eq_some_iff.1 qd).1 qd
        have RE : Hid (∀ w', (∃ p : Regrown, w' = Sort.grow (redrawn wr p.d) p.os) → w'.heap[w.heap.size + 1 + 1]? = some (.cells (bc e) 23 (0, 0))) := fun w' ⟨p, hp⟩ => by rw [hp]; exact Below.at (below_regrown wr p.d p.os) (Array.getElem?_eq_some_iff.1 qe).1 qe
        have k1 := hide fun d os => Calls.regrown_of (w := wr) (d := d) (os := os) (unhide CB1 k (by have := unhide HLT; omega) _)
        have k2 := hide fun d os => Calls.regrown_of (w := wr) (d := d) (os := os) (unhide CB2 k (by have := unhide HLT; omega) _)
        generalize pBit d k = bd at *
        generalize pBit e k = be at *
        clear hr qd qe
        go_wp2_with fail
        refine wp_region_below mixed (by kernel_rfl) ?_
        quiet_step (fail)
        quiet_step (fail)
        refine wpQuiet_load_row rfl 23 (.tmp 5) rfl (w.heap.size + 1) rfl 23 _ (0, 0) _ (unhide RD) Tryd.underlying23 rfl hi1 ?_
        quiet_step (fail)
        quiet_step (exact unhide k1 _ _)
        refine wpQuiet_load_row rfl 23 (.tmp 6) rfl (w.heap.size + 1 + 1) rfl 23 _ (0, 0) _ (unhide RE) Tryd.underlying23 rfl hi2 ?_
        quiet_step (fail)
        quiet_step (exact unhide k2 _ _)
        quiet_step (fail)
        quiet_step (fail)
        quiet_step (fail)
        refine wpQuiet_nil ?_
        intro w8 b8
        have BL8 := (unhide BL).trans (b8.mono (unhide BL).size)
        go_wp2
        go_roundw
        case rel => exact ⟨k + 1, r, by have := unhide HLT; omega, by go_num, rfl, hn, BL8⟩
        case measure => have := unhide HLT; simp [intOf]; omega
    · have hd1 : decide ((k : Int) < 32) = false := by simp; omega
      have hk32 : k = 32 := by omega
      subst hk32
      have hb2 := unhide hres _ (unhide hb)
      subst hb2
      have B8 := hide ((unhide B7).trans (bl.mono zz7))
      have L8 := hide ((unhide L7).below bl)
      have Q8 := hide (Below.at bl (Array.getElem?_eq_some_iff.1 (unhide Q12)).1 (unhide Q12))
      have G81 := hide (Below.at bl (Array.getElem?_eq_some_iff.1 (unhide G71)).1 (unhide G71))
      have G82 := hide (Below.at bl (Array.getElem?_eq_some_iff.1 (unhide G72)).1 (unhide G72))
      have q2 := Below.at (unhide B8) (by have := unhide Z1; omega) (unhide p2)
      have zz8 : w1.heap.size ≤ wr.heap.size := (unhide B8).size
      clear bl hlt hb Q12 G71 G72
      go_wp2_with (refine wpList_load_row rfl 23 (.tmp 6) rfl (w.heap.size + 1 + 1) rfl 23 _ (0, 0) _ q2 Tryd.underlying23 rfl hi2 ?_)
      refine (unhide CO g (g + 1) _ (Array.getElem?_eq_some_iff.1 (unhide G81)).1 (Array.getElem?_eq_some_iff.1 (unhide G82)).1 (bytes_of_row (unhide G81)) (bytes_of_row (unhide G82)) ((unhide T1).below (unhide B8) (Nat.le_refl _))).mono ?_
      rintro e1 w9 ⟨rfl, b9⟩
      have B9 := hide ((unhide B8).trans (b9.mono zz8))
      have zz9 : w1.heap.size ≤ w9.heap.size := (unhide B9).size
      have L9 := hide ((unhide L8).below b9)
      have Q9 := hide (Below.at b9 (Array.getElem?_eq_some_iff.1 (unhide Q8)).1 (unhide Q8))
      have G91 := hide (Below.at b9 (Array.getElem?_eq_some_iff.1 (unhide G81)).1 (unhide G81))
      have G92 := hide (Below.at b9 (Array.getElem?_eq_some_iff.1 (unhide G82)).1 (unhide G82))
      clear b9 Q8 G81 G82 q2
      go_upto_region 13 with (refine wpList_store_new rfl 23 (.tmp 15) (.tmp 50) rfl w9 _ _ DV rfl rfl hiV hzV ?_; intro wa qa ba ya)
      have BA := hide ((unhide B9).trans (ba.mono zz9))
      have zza : w1.heap.size ≤ wa.heap.size := (unhide BA).size
      have LA := hide ((unhide L9).below ba)
      have QA := hide qa
      have QB := hide (Below.at ba (Array.getElem?_eq_some_iff.1 (unhide Q9)).1 (unhide Q9))
      have GA1 := hide (Below.at ba (Array.getElem?_eq_some_iff.1 (unhide G91)).1 (unhide G91))
      have GA2 := hide (Below.at ba (Array.getElem?_eq_some_iff.1 (unhide G92)).1 (unhide G92))
      have q2 := Below.at (unhide BA) (by have := unhide Z1; omega) (unhide p2)
      obtain ⟨G15, hG15⟩ : ∃ y, w9.heap.size = y := ⟨_, rfl⟩
      rw [hG15] at QA
      simp only [hG15]
      have n15 : Hid (¬ S6 G15) := hide fun h => by have := (unhide L9).old _ h; omega
      clear qa ba ya Q9 G91 G92
      go_wp2_with (refine wpList_load_row rfl 23 (.tmp 6) rfl (w.heap.size + 1 + 1) rfl 23 _ (0, 0) _ q2 Tryd.underlying23 rfl hi2 ?_)
      refine (unhide CR g (g + 1) L S6 I6 (by have := unhide LE6; simp at this; omega) _ (unhide LA) (Array.getElem?_eq_some_iff.1 (unhide GA1)).1 (Array.getElem?_eq_some_iff.1 (unhide GA2)).1 (unhide n6).1 (unhide n6).2 (bytes_of_row (unhide GA1)) (bytes_of_row (unhide GA2))).mono ?_
      rintro e1 wb ⟨rfl, Sb, Ib, hLb, bub, hsb, mob, ntb, leb⟩
      have BB := hide ((unhide BA).trans (bub.to_below w1.heap.size (unhide HS6) zza))
      have zzb : w1.heap.size ≤ wb.heap.size := (unhide BB).size
      have qv := (bub.block _ (Array.getElem?_eq_some_iff.1 (unhide QA)).1 (unhide n15)).trans (unhide QA)
      have qw := (bub.block _ (Array.getElem?_eq_some_iff.1 (unhide QB)).1 (unhide n12)).trans (unhide QB)
      have LB := hide hLb
      clear hLb bub hsb mob ntb leb q2
      go_wp2_with fail
      refine (unhide CA _ ((unhide T1).below (unhide BB) (Nat.le_refl _))).mono ?_
      rintro e1 wc ⟨rfl, bc'⟩
      have BC := hide ((unhide BB).trans (bc'.mono zzb))
      have LC := hide ((unhide LB).below bc')
      have qv2 := Below.at bc' (Array.getElem?_eq_some_iff.1 qv).1 qv
      have qw2 := Below.at bc' (Array.getElem?_eq_some_iff.1 qw).1 qw
      clear bc' qv qw
      go_wp2_with (first
        | (refine wpList_load_row_gd rfl 23 (.tmp 15) rfl G15 rfl 23 _ (0, 0) _ qv2 Tryd.underlying23 rfl hiV ?_)
        | (refine wpList_load_row_gd rfl 23 (.tmp 12) rfl G12 rfl 23 _ (0, 0) _ qw2 Tryd.underlying23 rfl hiW ?_)
        | (refine wpList_eql_gm rfl 23 23 (.tmp 65) (.tmp 66) rfl _ _ rfl rfl (by kernel_rfl) _ (unhide hEQ) ?_))
      go_ret
      exact ⟨rfl, (unhide B1).trans ((unhide BC).mono (unhide B1).size)⟩
set_option maxHeartbeats 8000000 in
set_option maxRecDepth 100000 in
theorem lamportBinds_B (s d e : List UInt8) (hs : s.length = 32) (hd : d.length = 32) (he : e.length = 32) (x : Int) (index : Nat) (hx : x % 4294967296 = (index : Int)) (w : World) (tabs : Tabs w) (hall : ¬ ∀ j, j < 32 → pBit d j = pBit e j) (hne : pWordOf (pOpen e (pParts s index d 32) (pOthers s index d 32) 32) ≠ pWord s index) :
    Calls Tryd.prog 5 #[.agg (bc s), .agg (bc d), .agg (bc e), .int .i64 x] w fun e w' => e = .returned (.bool true) ∧ Below w.heap.size w w' := by
  have hPl := pParts_length s index d 32
  have hOl := pOthers_length s index d 32
  have hW := pOf_length 3 [pubs s index 64]
  have hV := pOf_length 3 [pOpen e (pParts s index d 32) (pOthers s index d 32) 32]
  change (pWord s index).length = 32 at hW
  change (pWordOf (pOpen e (pParts s index d 32) (pOthers s index d 32) 32)).length = 32 at hV
  have hEQ := hide fun W => dig_neqL _ _ hV hW W
  have hres : Hid (∀ b : Bool, (b = true ↔ ∀ j, j < 32 → pBit d j = pBit e j) → b = false) := hide fun b h => by
    cases b with
    | false => rfl
    | true => exact absurd (h.1 rfl) hall
  rw [decide_eq_false hne] at hEQ
  have hi0 := digInfo s hs
  have hi1 := digInfo d hd
  have hi2 := digInfo e he
  have hiW := digInfo (pWord s index) hW
  have hzW := zeroSize (pWord s index) hW
  have hiV := digInfo (pWordOf (pOpen e (pParts s index d 32) (pOthers s index d 32) 32)) hV
  have hzV := zeroSize (pWordOf (pOpen e (pParts s index d 32) (pOthers s index d 32) 32)) hV
  have CS := hide fun W t => sign_calls s hs d hd x index hx W t
  have CW := hide fun L S I hI W hL => rwordQ_calls s hs x index hx L S I hI W hL
  have CO := hide fun g1 g2 W h1 h2 b1 b2 t => opened_calls e he (pParts s index d 32) (pOthers s index d 32) hPl hOl g1 0 32 g2 0 32 W h1 h2 b1 b2 t
  have CR := hide fun g1 g2 L S I hI W hL h1 h2 n1 n2 b1 b2 => ropenedQ_calls e he (pParts s index d 32) (pOthers s index d 32) hPl hOl g1 0 32 g2 0 32 L S I hI W hL h1 h2 n1 n2 b1 b2
  have CB1 := hide fun i hi W => bit_calls d hd i hi W
  have CB2 := hide fun i hi W => bit_calls e he i hi W
  have CA := hide fun W t => lawake_calls W t
  have HT := hide tabs
  clear hall hPl hOl hV hW tabs hx hne
  generalize pWordOf (pOpen e (pParts s index d 32) (pOthers s index d 32) 32) = DV at *
  generalize pWord s index = DW at *
  obtain ⟨q0, q1, q2⟩ := al3 w (.cells (bc s) 23) (.cells (bc d) 23) (.cells (bc e) 23)
  have b0 := bel3 w (.cells (bc s) 23) (.cells (bc d) 23) (.cells (bc e) 23)
  have sX : (((w.alloc (.cells (bc s) 23)).alloc (.cells (bc d) 23)).alloc (.cells (bc e) 23)).heap.size = w.heap.size + 1 + 1 + 1 := by simp
  obtain ⟨X, hX⟩ : ∃ X, ((w.alloc (.cells (bc s) 23)).alloc (.cells (bc d) 23)).alloc (.cells (bc e) 23) = X := ⟨_, rfl⟩
  rw [hX] at q0 q1 q2 b0 sX
  have HX := hide hX
  have SX := hide sX
  have TX := (unhide HT).below b0 (Nat.le_refl _)
  have B0 := hide b0
  clear hX sX b0
  go_enter Tryd.func5, Tryd.ntmps5
  go_upto_region 1 with fail
  change Code.wp _ _ _ _ (((w.alloc (.cells (bc s) 23)).alloc (.cells (bc d) 23)).alloc (.cells (bc e) 23))
  rw [unhide HX]
  go_wp2_with fail
  refine (unhide CA _ TX).mono ?_
  rintro e1 w1 ⟨rfl, b1⟩
  have p0 := hide (Below.at b1 (Array.getElem?_eq_some_iff.1 q0).1 q0)
  have p1 := hide (Below.at b1 (Array.getElem?_eq_some_iff.1 q1).1 q1)
  have p2 := hide (Below.at b1 (Array.getElem?_eq_some_iff.1 q2).1 q2)
  have B1 := hide ((unhide B0).trans (b1.mono (unhide B0).size))
  have T1 := hide (TX.below b1 (Nat.le_refl _))
  have z1 : w.heap.size + 1 + 1 < w1.heap.size := (Array.getElem?_eq_some_iff.1 (unhide p2)).1
  have Z1 := hide z1
  clear q0 q1 q2 b1 TX z1
  go_wp2_with fail
  refine (rnewLog_calls _).mono ?_
  rintro e1 w4 ⟨rfl, hL4, b4, z4⟩
  obtain ⟨L, hLL⟩ : ∃ B, w1.heap.size + 1 = B := ⟨_, rfl⟩
  obtain ⟨S4, hS4⟩ : ∃ S : Nat → Prop, (fun k => w1.heap.size ≤ k ∧ k < w1.heap.size + 2) = S := ⟨_, rfl⟩
  have HS4 : Hid (∀ k, S4 k → w1.heap.size ≤ k) := hide fun k h => by rw [← hS4] at h; exact h.1
  rw [hLL, hS4] at hL4
  rw [hLL]
  have L4 := hide hL4
  have B4 := hide b4
  have q0 := Below.at b4 (by have := unhide Z1; omega) (unhide p0)
  have q1 := Below.at b4 (by have := unhide Z1; omega) (unhide p1)
  clear hL4 b4 z4 hLL hS4
  go_wp2_with (first
    | (refine wpList_load_row rfl 23 (.tmp 4) rfl w.heap.size rfl 23 _ (0, 0) _ q0 Tryd.underlying23 rfl hi0 ?_)
    | (refine wpList_load_row rfl 23 (.tmp 5) rfl (w.heap.size + 1) rfl 23 _ (0, 0) _ q1 Tryd.underlying23 rfl hi1 ?_))
  refine (unhide CS _ ((unhide T1).below (unhide B4) (Nat.le_refl _))).mono ?_
  rintro e1 w5 ⟨g, hg, rfl, b5, g1, g2⟩
  have zz4 : w1.heap.size ≤ w4.heap.size := (unhide B4).size
  have B5 := hide ((unhide B4).trans (b5.mono zz4))
  have L5 := hide ((unhide L4).below b5)
  have HG := hide hg
  have G1 := hide g1
  have G2 := hide g2
  have hgS : Hid (∀ S : Nat → Prop, (∀ k, S k → S4 k ∨ w5.heap.size ≤ k) → ¬ S g ∧ ¬ S (g + 1)) := hide fun S h => ⟨fun h1 => (h _ h1).elim (fun h2 => by have := (unhide L4).old _ h2; omega) (fun h2 => by have := (Array.getElem?_eq_some_iff.1 (unhide G1)).1; omega), fun h1 => (h _ h1).elim (fun h2 => by have := (unhide L4).old _ h2; omega) (fun h2 => by have := (Array.getElem?_eq_some_iff.1 (unhide G2)).1; omega)⟩
  have q0 := Below.at (unhide B5) (by have := unhide Z1; omega) (unhide p0)
  clear b5 g1 g2 hg q1
  go_wp2_with (refine wpList_load_row rfl 23 (.tmp 4) rfl w.heap.size rfl 23 _ (0, 0) _ q0 Tryd.underlying23 rfl hi0 ?_)
  refine (unhide CW L S4 [] (by simp) _ (unhide L5)).mono ?_
  rintro e1 w6 ⟨rfl, S6, I6, hL6, bu6, hs6, _, nt6, le6⟩
  have zz5 : w1.heap.size ≤ w5.heap.size := (unhide B5).size
  have B6 := hide ((unhide B5).trans (bu6.to_below w1.heap.size (unhide HS4) zz5))
  have HS6 : Hid (∀ k, S6 k → w1.heap.size ≤ k) := hide fun k h => (hs6 k h).elim (unhide HS4 k) (Nat.le_trans zz5)
  have zz6 : w1.heap.size ≤ w6.heap.size := (unhide B6).size
  have L6 := hide hL6
  have NT6 := hide nt6
  have LE6 := hide le6
  have n6 := hide (unhide hgS S6 hs6)
  have G61 := hide ((bu6.block g (Array.getElem?_eq_some_iff.1 (unhide G1)).1 (unhide hgS S4 (fun k h => .inl h)).1).trans (unhide G1))
  have G62 := hide ((bu6.block (g + 1) (Array.getElem?_eq_some_iff.1 (unhide G2)).1 (unhide hgS S4 (fun k h => .inl h)).2).trans (unhide G2))
  clear hL6 bu6 hs6 nt6 le6 q0
  go_upto_region 7 with (refine wpList_store_new rfl 23 (.tmp 12) (.tmp 30) rfl w6 _ _ DW rfl rfl hiW hzW ?_; intro w7 q12 b7 y7)
  have B7 := hide ((unhide B6).trans (b7.mono zz6))
  have zz7 : w1.heap.size ≤ w7.heap.size := (unhide B7).size
  have L7 := hide ((unhide L6).below b7)
  have Q12 := hide q12
  have G71 := hide (Below.at b7 (Array.getElem?_eq_some_iff.1 (unhide G61)).1 (unhide G61))
  have G72 := hide (Below.at b7 (Array.getElem?_eq_some_iff.1 (unhide G62)).1 (unhide G62))
  obtain ⟨G12, hG12⟩ : ∃ y, w6.heap.size = y := ⟨_, rfl⟩
  rw [hG12] at Q12
  simp only [hG12]
  have n12 : Hid (¬ S6 G12) := hide fun h => by have := (unhide L6).old _ h; omega
  clear q12 b7 y7
  go_wp2
  go_loopw [13, 14, 31] (fun sm _ i wr => ∃ (k : Nat) (b : Bool), k ≤ 32 ∧ i = .int .i64 (k : Int) ∧ sm = .bool b ∧ Hid (b = true ↔ ∀ j, j < k → pBit d j = pBit e j) ∧ Below w7.heap.size w7 wr) (fun _ _ i _ => 32 - (intOf i).toNat)
  case atStart => exact ⟨0, true, by omega, rfl, rfl, hide (by simp), Below.refl _ _⟩
  case round =>
    obtain ⟨k, b, hk, rfl, rfl, hb, bl⟩ := hrel
    by_cases hlt : k < 32
    · have hd1 : decide ((k : Int) < 32) = true := by simp; omega
      have BL := hide bl
      have HLT := hide hlt
      clear bl hlt
      cases b with
      | false =>
        have hn : Hid (false = true ↔ ∀ j, j < k + 1 → pBit d j = pBit e j) := hide ⟨fun h => (by cases h), fun h => (unhide hb).2 (fun j hj => h j (by omega))⟩
        go_wp2_with fail
        refine wp_region_below mixed (by kernel_rfl) ?_
        quiet_step (fail)
        quiet_step (fail)
        repeat (go_big_quiet_step (fail))
        refine wpQuiet_nil ?_
        intro w8 b8
        have BL8 := (unhide BL).trans (b8.mono (unhide BL).size)
        go_wp2
        go_roundw
        case rel => exact ⟨k + 1, false, by have := unhide HLT; omega, by go_num, rfl, hn, BL8⟩
        case measure => have := unhide HLT; simp [intOf]; omega
      | true =>
        obtain ⟨r, hr⟩ : ∃ r, decide (pBit d k = pBit e k) = r := ⟨_, rfl⟩
        have hn : Hid (r = true ↔ ∀ j, j < k + 1 → pBit d j = pBit e j) := hide (by
          have h0 := (unhide hb).1 rfl
          rw [← hr, decide_eq_true_iff]
          constructor
          · intro h j hj
            by_cases e' : j = k
            · rw [e']; exact h
            · exact h0 j (by omega)
          · intro h; exact h k (by omega))
        have hr2 : (((pBit d k : Nat) : Int) == ((pBit e k : Nat) : Int)) = r := by
          rw [← hr, Bool.eq_iff_iff]; simp; constructor <;> intro h <;> omega
        have qd := Below.at ((unhide B7).trans ((unhide BL).mono zz7)) (by have := unhide Z1; omega) (unhide p1)
        have qe := Below.at ((unhide B7).trans ((unhide BL).mono zz7)) (by have := unhide Z1; omega) (unhide p2)
        have RD : Hid (∀ w', (∃ p : Regrown, w' = Sort.grow (redrawn wr p.d) p.os) → w'.heap[w.heap.size + 1]? = some (.cells (bc d) 23 (0, 0))) := fun w' ⟨p, hp⟩ => by rw [hp]; exact Below.at (below_regrown wr p.d p.os) (Array.getElem?_eq_some_iff.1 qd).1 qd
        have RE : Hid (∀ w', (∃ p : Regrown, w' = Sort.grow (redrawn wr p.d) p.os) → w'.heap[w.heap.size + 1 + 1]? = some (.cells (bc e) 23 (0, 0))) := fun w' ⟨p, hp⟩ => by rw [hp]; exact Below.at (below_regrown wr p.d p.os) (Array.getElem?_eq_some_iff.1 qe).1 qe
        have k1 := hide fun d os => Calls.regrown_of (w := wr) (d := d) (os := os) (unhide CB1 k (by have := unhide HLT; omega) _)
        have k2 := hide fun d os => Calls.regrown_of (w := wr) (d := d) (os := os) (unhide CB2 k (by have := unhide HLT; omega) _)
        generalize pBit d k = bd at *
        generalize pBit e k = be at *
        clear hr qd qe
        go_wp2_with fail
        refine wp_region_below mixed (by kernel_rfl) ?_
        quiet_step (fail)
        quiet_step (fail)
        refine wpQuiet_load_row rfl 23 (.tmp 5) rfl (w.heap.size + 1) rfl 23 _ (0, 0) _ (unhide RD) Tryd.underlying23 rfl hi1 ?_
        quiet_step (fail)
        quiet_step (exact unhide k1 _ _)
        refine wpQuiet_load_row rfl 23 (.tmp 6) rfl (w.heap.size + 1 + 1) rfl 23 _ (0, 0) _ (unhide RE) Tryd.underlying23 rfl hi2 ?_
        quiet_step (fail)
        quiet_step (exact unhide k2 _ _)
        quiet_step (fail)
        quiet_step (fail)
        quiet_step (fail)
        refine wpQuiet_nil ?_
        intro w8 b8
        have BL8 := (unhide BL).trans (b8.mono (unhide BL).size)
        go_wp2
        go_roundw
        case rel => exact ⟨k + 1, r, by have := unhide HLT; omega, by go_num, rfl, hn, BL8⟩
        case measure => have := unhide HLT; simp [intOf]; omega
    · have hd1 : decide ((k : Int) < 32) = false := by simp; omega
      have hk32 : k = 32 := by omega
      subst hk32
      have hb2 := unhide hres _ (unhide hb)
      subst hb2
      have B8 := hide ((unhide B7).trans (bl.mono zz7))
      have L8 := hide ((unhide L7).below bl)
      have Q8 := hide (Below.at bl (Array.getElem?_eq_some_iff.1 (unhide Q12)).1 (unhide Q12))
      have G81 := hide (Below.at bl (Array.getElem?_eq_some_iff.1 (unhide G71)).1 (unhide G71))
      have G82 := hide (Below.at bl (Array.getElem?_eq_some_iff.1 (unhide G72)).1 (unhide G72))
      have q2 := Below.at (unhide B8) (by have := unhide Z1; omega) (unhide p2)
      have zz8 : w1.heap.size ≤ wr.heap.size := (unhide B8).size
      clear bl hlt hb Q12 G71 G72
      go_wp2_with (refine wpList_load_row rfl 23 (.tmp 6) rfl (w.heap.size + 1 + 1) rfl 23 _ (0, 0) _ q2 Tryd.underlying23 rfl hi2 ?_)
      refine (unhide CO g (g + 1) _ (Array.getElem?_eq_some_iff.1 (unhide G81)).1 (Array.getElem?_eq_some_iff.1 (unhide G82)).1 (bytes_of_row (unhide G81)) (bytes_of_row (unhide G82)) ((unhide T1).below (unhide B8) (Nat.le_refl _))).mono ?_
      rintro e1 w9 ⟨rfl, b9⟩
      have B9 := hide ((unhide B8).trans (b9.mono zz8))
      have zz9 : w1.heap.size ≤ w9.heap.size := (unhide B9).size
      have L9 := hide ((unhide L8).below b9)
      have Q9 := hide (Below.at b9 (Array.getElem?_eq_some_iff.1 (unhide Q8)).1 (unhide Q8))
      have G91 := hide (Below.at b9 (Array.getElem?_eq_some_iff.1 (unhide G81)).1 (unhide G81))
      have G92 := hide (Below.at b9 (Array.getElem?_eq_some_iff.1 (unhide G82)).1 (unhide G82))
      clear b9 Q8 G81 G82 q2
      go_upto_region 13 with (refine wpList_store_new rfl 23 (.tmp 15) (.tmp 50) rfl w9 _ _ DV rfl rfl hiV hzV ?_; intro wa qa ba ya)
      have BA := hide ((unhide B9).trans (ba.mono zz9))
      have zza : w1.heap.size ≤ wa.heap.size := (unhide BA).size
      have LA := hide ((unhide L9).below ba)
      have QA := hide qa
      have QB := hide (Below.at ba (Array.getElem?_eq_some_iff.1 (unhide Q9)).1 (unhide Q9))
      have GA1 := hide (Below.at ba (Array.getElem?_eq_some_iff.1 (unhide G91)).1 (unhide G91))
      have GA2 := hide (Below.at ba (Array.getElem?_eq_some_iff.1 (unhide G92)).1 (unhide G92))
      have q2 := Below.at (unhide BA) (by have := unhide Z1; omega) (unhide p2)
      obtain ⟨G15, hG15⟩ : ∃ y, w9.heap.size = y := ⟨_, rfl⟩
      rw [hG15] at QA
      simp only [hG15]
      have n15 : Hid (¬ S6 G15) := hide fun h => by have := (unhide L9).old _ h; omega
      clear qa ba ya Q9 G91 G92
      go_wp2_with (refine wpList_load_row rfl 23 (.tmp 6) rfl (w.heap.size + 1 + 1) rfl 23 _ (0, 0) _ q2 Tryd.underlying23 rfl hi2 ?_)
      refine (unhide CR g (g + 1) L S6 I6 (by have := unhide LE6; simp at this; omega) _ (unhide LA) (Array.getElem?_eq_some_iff.1 (unhide GA1)).1 (Array.getElem?_eq_some_iff.1 (unhide GA2)).1 (unhide n6).1 (unhide n6).2 (bytes_of_row (unhide GA1)) (bytes_of_row (unhide GA2))).mono ?_
      rintro e1 wb ⟨rfl, Sb, Ib, hLb, bub, hsb, mob, ntb, leb⟩
      have BB := hide ((unhide BA).trans (bub.to_below w1.heap.size (unhide HS6) zza))
      have zzb : w1.heap.size ≤ wb.heap.size := (unhide BB).size
      have qv := (bub.block _ (Array.getElem?_eq_some_iff.1 (unhide QA)).1 (unhide n15)).trans (unhide QA)
      have qw := (bub.block _ (Array.getElem?_eq_some_iff.1 (unhide QB)).1 (unhide n12)).trans (unhide QB)
      have LB := hide hLb
      clear hLb bub hsb mob ntb leb q2
      go_wp2_with fail
      refine (unhide CA _ ((unhide T1).below (unhide BB) (Nat.le_refl _))).mono ?_
      rintro e1 wc ⟨rfl, bc'⟩
      have BC := hide ((unhide BB).trans (bc'.mono zzb))
      have LC := hide ((unhide LB).below bc')
      have qv2 := Below.at bc' (Array.getElem?_eq_some_iff.1 qv).1 qv
      have qw2 := Below.at bc' (Array.getElem?_eq_some_iff.1 qw).1 qw
      clear bc' qv qw
      go_wp2_with (first
        | (refine wpList_load_row_gd rfl 23 (.tmp 15) rfl G15 rfl 23 _ (0, 0) _ qv2 Tryd.underlying23 rfl hiV ?_)
        | (refine wpList_load_row_gd rfl 23 (.tmp 12) rfl G12 rfl 23 _ (0, 0) _ qw2 Tryd.underlying23 rfl hiW ?_)
        | (refine wpList_neq_gm rfl 23 23 (.tmp 73) (.tmp 74) rfl _ _ rfl rfl (by kernel_rfl) _ (unhide hEQ) ?_))
      go_ret
      exact ⟨rfl, (unhide B1).trans ((unhide BC).mono (unhide B1).size)⟩
set_option maxHeartbeats 8000000 in
set_option maxRecDepth 100000 in
theorem lamportBinds_C (s d e : List UInt8) (hs : s.length = 32) (hd : d.length = 32) (he : e.length = 32) (x : Int) (index : Nat) (hx : x % 4294967296 = (index : Int)) (w : World) (tabs : Tabs w) (hall : ¬ ∀ j, j < 32 → pBit d j = pBit e j) (hne : pWordOf (pOpen e (pParts s index d 32) (pOthers s index d 32) 32) = pWord s index) :
    Calls Tryd.prog 5 #[.agg (bc s), .agg (bc d), .agg (bc e), .int .i64 x] w fun e w' => e = .returned (.bool true) ∧ Below w.heap.size w w' := by
  have hPl := pParts_length s index d 32
  have hOl := pOthers_length s index d 32
  have hW := pOf_length 3 [pubs s index 64]
  have hV := pOf_length 3 [pOpen e (pParts s index d 32) (pOthers s index d 32) 32]
  change (pWord s index).length = 32 at hW
  change (pWordOf (pOpen e (pParts s index d 32) (pOthers s index d 32) 32)).length = 32 at hV
  have hEQ := hide fun W => dig_neqL _ _ hV hW W
  have hres : Hid (∀ b : Bool, (b = true ↔ ∀ j, j < 32 → pBit d j = pBit e j) → b = false) := hide fun b h => by
    cases b with
    | false => rfl
    | true => exact absurd (h.1 rfl) hall
  rw [decide_eq_true hne] at hEQ
  have HC := hide fun J (h0 : WNoted s index 64 J) (h1 : wIn (pubs s index 64) ∈ J) (h2 : wIn (pOpen e (pParts s index d 32) (pOthers s index d 32) 32) ∈ J) => binds_pure s hs index d e J h0 h1 h2 hne hall
  have hi0 := digInfo s hs
  have hi1 := digInfo d hd
  have hi2 := digInfo e he
  have hiW := digInfo (pWord s index) hW
  have hzW := zeroSize (pWord s index) hW
  have hiV := digInfo (pWordOf (pOpen e (pParts s index d 32) (pOthers s index d 32) 32)) hV
  have hzV := zeroSize (pWordOf (pOpen e (pParts s index d 32) (pOthers s index d 32) 32)) hV
  have CS := hide fun W t => sign_calls s hs d hd x index hx W t
  have CW := hide fun L S I hI W hL => rwordQ_calls s hs x index hx L S I hI W hL
  have CO := hide fun g1 g2 W h1 h2 b1 b2 t => opened_calls e he (pParts s index d 32) (pOthers s index d 32) hPl hOl g1 0 32 g2 0 32 W h1 h2 b1 b2 t
  have CR := hide fun g1 g2 L S I hI W hL h1 h2 n1 n2 b1 b2 => ropenedQ_calls e he (pParts s index d 32) (pOthers s index d 32) hPl hOl g1 0 32 g2 0 32 L S I hI W hL h1 h2 n1 n2 b1 b2
  have CB1 := hide fun i hi W => bit_calls d hd i hi W
  have CB2 := hide fun i hi W => bit_calls e he i hi W
  have CA := hide fun W t => lawake_calls W t
  have HT := hide tabs
  clear hall hPl hOl hV hW tabs hx hne
  generalize pWordOf (pOpen e (pParts s index d 32) (pOthers s index d 32) 32) = DV at *
  generalize pWord s index = DW at *
  obtain ⟨q0, q1, q2⟩ := al3 w (.cells (bc s) 23) (.cells (bc d) 23) (.cells (bc e) 23)
  have b0 := bel3 w (.cells (bc s) 23) (.cells (bc d) 23) (.cells (bc e) 23)
  have sX : (((w.alloc (.cells (bc s) 23)).alloc (.cells (bc d) 23)).alloc (.cells (bc e) 23)).heap.size = w.heap.size + 1 + 1 + 1 := by simp
  obtain ⟨X, hX⟩ : ∃ X, ((w.alloc (.cells (bc s) 23)).alloc (.cells (bc d) 23)).alloc (.cells (bc e) 23) = X := ⟨_, rfl⟩
  rw [hX] at q0 q1 q2 b0 sX
  have HX := hide hX
  have SX := hide sX
  have TX := (unhide HT).below b0 (Nat.le_refl _)
  have B0 := hide b0
  clear hX sX b0
  go_enter Tryd.func5, Tryd.ntmps5
  go_upto_region 1 with fail
  change Code.wp _ _ _ _ (((w.alloc (.cells (bc s) 23)).alloc (.cells (bc d) 23)).alloc (.cells (bc e) 23))
  rw [unhide HX]
  go_wp2_with fail
  refine (unhide CA _ TX).mono ?_
  rintro e1 w1 ⟨rfl, b1⟩
  have p0 := hide (Below.at b1 (Array.getElem?_eq_some_iff.1 q0).1 q0)
  have p1 := hide (Below.at b1 (Array.getElem?_eq_some_iff.1 q1).1 q1)
  have p2 := hide (Below.at b1 (Array.getElem?_eq_some_iff.1 q2).1 q2)
  have B1 := hide ((unhide B0).trans (b1.mono (unhide B0).size))
  have T1 := hide (TX.below b1 (Nat.le_refl _))
  have z1 : w.heap.size + 1 + 1 < w1.heap.size := (Array.getElem?_eq_some_iff.1 (unhide p2)).1
  have Z1 := hide z1
  clear q0 q1 q2 b1 TX z1
  go_wp2_with fail
  refine (rnewLog_calls _).mono ?_
  rintro e1 w4 ⟨rfl, hL4, b4, z4⟩
  obtain ⟨L, hLL⟩ : ∃ B, w1.heap.size + 1 = B := ⟨_, rfl⟩
  obtain ⟨S4, hS4⟩ : ∃ S : Nat → Prop, (fun k => w1.heap.size ≤ k ∧ k < w1.heap.size + 2) = S := ⟨_, rfl⟩
  have HS4 : Hid (∀ k, S4 k → w1.heap.size ≤ k) := hide fun k h => by rw [← hS4] at h; exact h.1
  rw [hLL, hS4] at hL4
  rw [hLL]
  have L4 := hide hL4
  have B4 := hide b4
  have q0 := Below.at b4 (by have := unhide Z1; omega) (unhide p0)
  have q1 := Below.at b4 (by have := unhide Z1; omega) (unhide p1)
  clear hL4 b4 z4 hLL hS4
  go_wp2_with (first
    | (refine wpList_load_row rfl 23 (.tmp 4) rfl w.heap.size rfl 23 _ (0, 0) _ q0 Tryd.underlying23 rfl hi0 ?_)
    | (refine wpList_load_row rfl 23 (.tmp 5) rfl (w.heap.size + 1) rfl 23 _ (0, 0) _ q1 Tryd.underlying23 rfl hi1 ?_))
  refine (unhide CS _ ((unhide T1).below (unhide B4) (Nat.le_refl _))).mono ?_
  rintro e1 w5 ⟨g, hg, rfl, b5, g1, g2⟩
  have zz4 : w1.heap.size ≤ w4.heap.size := (unhide B4).size
  have B5 := hide ((unhide B4).trans (b5.mono zz4))
  have L5 := hide ((unhide L4).below b5)
  have HG := hide hg
  have G1 := hide g1
  have G2 := hide g2
  have hgS : Hid (∀ S : Nat → Prop, (∀ k, S k → S4 k ∨ w5.heap.size ≤ k) → ¬ S g ∧ ¬ S (g + 1)) := hide fun S h => ⟨fun h1 => (h _ h1).elim (fun h2 => by have := (unhide L4).old _ h2; omega) (fun h2 => by have := (Array.getElem?_eq_some_iff.1 (unhide G1)).1; omega), fun h1 => (h _ h1).elim (fun h2 => by have := (unhide L4).old _ h2; omega) (fun h2 => by have := (Array.getElem?_eq_some_iff.1 (unhide G2)).1; omega)⟩
  have q0 := Below.at (unhide B5) (by have := unhide Z1; omega) (unhide p0)
  clear b5 g1 g2 hg q1
  go_wp2_with (refine wpList_load_row rfl 23 (.tmp 4) rfl w.heap.size rfl 23 _ (0, 0) _ q0 Tryd.underlying23 rfl hi0 ?_)
  refine (unhide CW L S4 [] (by simp) _ (unhide L5)).mono ?_
  rintro e1 w6 ⟨rfl, S6, I6, hL6, bu6, hs6, _, nt6, le6⟩
  have zz5 : w1.heap.size ≤ w5.heap.size := (unhide B5).size
  have B6 := hide ((unhide B5).trans (bu6.to_below w1.heap.size (unhide HS4) zz5))
  have HS6 : Hid (∀ k, S6 k → w1.heap.size ≤ k) := hide fun k h => (hs6 k h).elim (unhide HS4 k) (Nat.le_trans zz5)
  have zz6 : w1.heap.size ≤ w6.heap.size := (unhide B6).size
  have L6 := hide hL6
  have NT6 := hide nt6
  have LE6 := hide le6
  have n6 := hide (unhide hgS S6 hs6)
  have G61 := hide ((bu6.block g (Array.getElem?_eq_some_iff.1 (unhide G1)).1 (unhide hgS S4 (fun k h => .inl h)).1).trans (unhide G1))
  have G62 := hide ((bu6.block (g + 1) (Array.getElem?_eq_some_iff.1 (unhide G2)).1 (unhide hgS S4 (fun k h => .inl h)).2).trans (unhide G2))
  clear hL6 bu6 hs6 nt6 le6 q0
  go_upto_region 7 with (refine wpList_store_new rfl 23 (.tmp 12) (.tmp 30) rfl w6 _ _ DW rfl rfl hiW hzW ?_; intro w7 q12 b7 y7)
  have B7 := hide ((unhide B6).trans (b7.mono zz6))
  have zz7 : w1.heap.size ≤ w7.heap.size := (unhide B7).size
  have L7 := hide ((unhide L6).below b7)
  have Q12 := hide q12
  have G71 := hide (Below.at b7 (Array.getElem?_eq_some_iff.1 (unhide G61)).1 (unhide G61))
  have G72 := hide (Below.at b7 (Array.getElem?_eq_some_iff.1 (unhide G62)).1 (unhide G62))
  obtain ⟨G12, hG12⟩ : ∃ y, w6.heap.size = y := ⟨_, rfl⟩
  rw [hG12] at Q12
  simp only [hG12]
  have n12 : Hid (¬ S6 G12) := hide fun h => by have := (unhide L6).old _ h; omega
  clear q12 b7 y7
  go_wp2
  go_loopw [13, 14, 31] (fun sm _ i wr => ∃ (k : Nat) (b : Bool), k ≤ 32 ∧ i = .int .i64 (k : Int) ∧ sm = .bool b ∧ Hid (b = true ↔ ∀ j, j < k → pBit d j = pBit e j) ∧ Below w7.heap.size w7 wr) (fun _ _ i _ => 32 - (intOf i).toNat)
  case atStart => exact ⟨0, true, by omega, rfl, rfl, hide (by simp), Below.refl _ _⟩
  case round =>
    obtain ⟨k, b, hk, rfl, rfl, hb, bl⟩ := hrel
    by_cases hlt : k < 32
    · have hd1 : decide ((k : Int) < 32) = true := by simp; omega
      have BL := hide bl
      have HLT := hide hlt
      clear bl hlt
      cases b with
      | false =>
        have hn : Hid (false = true ↔ ∀ j, j < k + 1 → pBit d j = pBit e j) := hide ⟨fun h => (by cases h), fun h => (unhide hb).2 (fun j hj => h j (by omega))⟩
        go_wp2_with fail
        refine wp_region_below mixed (by kernel_rfl) ?_
        quiet_step (fail)
        quiet_step (fail)
        repeat (go_big_quiet_step (fail))
        refine wpQuiet_nil ?_
        intro w8 b8
        have BL8 := (unhide BL).trans (b8.mono (unhide BL).size)
        go_wp2
        go_roundw
        case rel => exact ⟨k + 1, false, by have := unhide HLT; omega, by go_num, rfl, hn, BL8⟩
        case measure => have := unhide HLT; simp [intOf]; omega
      | true =>
        obtain ⟨r, hr⟩ : ∃ r, decide (pBit d k = pBit e k) = r := ⟨_, rfl⟩
        have hn : Hid (r = true ↔ ∀ j, j < k + 1 → pBit d j = pBit e j) := hide (by
          have h0 := (unhide hb).1 rfl
          rw [← hr, decide_eq_true_iff]
          constructor
          · intro h j hj
            by_cases e' : j = k
            · rw [e']; exact h
            · exact h0 j (by omega)
          · intro h; exact h k (by omega))
        have hr2 : (((pBit d k : Nat) : Int) == ((pBit e k : Nat) : Int)) = r := by
          rw [← hr, Bool.eq_iff_iff]; simp; constructor <;> intro h <;> omega
        have qd := Below.at ((unhide B7).trans ((unhide BL).mono zz7)) (by have := unhide Z1; omega) (unhide p1)
        have qe := Below.at ((unhide B7).trans ((unhide BL).mono zz7)) (by have := unhide Z1; omega) (unhide p2)
        have RD : Hid (∀ w', (∃ p : Regrown, w' = Sort.grow (redrawn wr p.d) p.os) → w'.heap[w.heap.size + 1]? = some (.cells (bc d) 23 (0, 0))) := fun w' ⟨p, hp⟩ => by rw [hp]; exact Below.at (below_regrown wr p.d p.os) (Array.getElem?_eq_some_iff.1 qd).1 qd
        have RE : Hid (∀ w', (∃ p : Regrown, w' = Sort.grow (redrawn wr p.d) p.os) → w'.heap[w.heap.size + 1 + 1]? = some (.cells (bc e) 23 (0, 0))) := fun w' ⟨p, hp⟩ => by rw [hp]; exact Below.at (below_regrown wr p.d p.os) (Array.getElem?_eq_some_iff.1 qe).1 qe
        have k1 := hide fun d os => Calls.regrown_of (w := wr) (d := d) (os := os) (unhide CB1 k (by have := unhide HLT; omega) _)
        have k2 := hide fun d os => Calls.regrown_of (w := wr) (d := d) (os := os) (unhide CB2 k (by have := unhide HLT; omega) _)
        generalize pBit d k = bd at *
        generalize pBit e k = be at *
        clear hr qd qe
        go_wp2_with fail
        refine wp_region_below mixed (by kernel_rfl) ?_
        quiet_step (fail)
        quiet_step (fail)
        refine wpQuiet_load_row rfl 23 (.tmp 5) rfl (w.heap.size + 1) rfl 23 _ (0, 0) _ (unhide RD) Tryd.underlying23 rfl hi1 ?_
        quiet_step (fail)
        quiet_step (exact unhide k1 _ _)
        refine wpQuiet_load_row rfl 23 (.tmp 6) rfl (w.heap.size + 1 + 1) rfl 23 _ (0, 0) _ (unhide RE) Tryd.underlying23 rfl hi2 ?_
        quiet_step (fail)
        quiet_step (exact unhide k2 _ _)
        quiet_step (fail)
        quiet_step (fail)
        quiet_step (fail)
        refine wpQuiet_nil ?_
        intro w8 b8
        have BL8 := (unhide BL).trans (b8.mono (unhide BL).size)
        go_wp2
        go_roundw
        case rel => exact ⟨k + 1, r, by have := unhide HLT; omega, by go_num, rfl, hn, BL8⟩
        case measure => have := unhide HLT; simp [intOf]; omega
    · have hd1 : decide ((k : Int) < 32) = false := by simp; omega
      have hk32 : k = 32 := by omega
      subst hk32
      have hb2 := unhide hres _ (unhide hb)
      subst hb2
      have B8 := hide ((unhide B7).trans (bl.mono zz7))
      have L8 := hide ((unhide L7).below bl)
      have Q8 := hide (Below.at bl (Array.getElem?_eq_some_iff.1 (unhide Q12)).1 (unhide Q12))
      have G81 := hide (Below.at bl (Array.getElem?_eq_some_iff.1 (unhide G71)).1 (unhide G71))
      have G82 := hide (Below.at bl (Array.getElem?_eq_some_iff.1 (unhide G72)).1 (unhide G72))
      have q2 := Below.at (unhide B8) (by have := unhide Z1; omega) (unhide p2)
      have zz8 : w1.heap.size ≤ wr.heap.size := (unhide B8).size
      clear bl hlt hb Q12 G71 G72
      go_wp2_with (refine wpList_load_row rfl 23 (.tmp 6) rfl (w.heap.size + 1 + 1) rfl 23 _ (0, 0) _ q2 Tryd.underlying23 rfl hi2 ?_)
      refine (unhide CO g (g + 1) _ (Array.getElem?_eq_some_iff.1 (unhide G81)).1 (Array.getElem?_eq_some_iff.1 (unhide G82)).1 (bytes_of_row (unhide G81)) (bytes_of_row (unhide G82)) ((unhide T1).below (unhide B8) (Nat.le_refl _))).mono ?_
      rintro e1 w9 ⟨rfl, b9⟩
      have B9 := hide ((unhide B8).trans (b9.mono zz8))
      have zz9 : w1.heap.size ≤ w9.heap.size := (unhide B9).size
      have L9 := hide ((unhide L8).below b9)
      have Q9 := hide (Below.at b9 (Array.getElem?_eq_some_iff.1 (unhide Q8)).1 (unhide Q8))
      have G91 := hide (Below.at b9 (Array.getElem?_eq_some_iff.1 (unhide G81)).1 (unhide G81))
      have G92 := hide (Below.at b9 (Array.getElem?_eq_some_iff.1 (unhide G82)).1 (unhide G82))
      clear b9 Q8 G81 G82 q2
      go_upto_region 13 with (refine wpList_store_new rfl 23 (.tmp 15) (.tmp 50) rfl w9 _ _ DV rfl rfl hiV hzV ?_; intro wa qa ba ya)
      have BA := hide ((unhide B9).trans (ba.mono zz9))
      have zza : w1.heap.size ≤ wa.heap.size := (unhide BA).size
      have LA := hide ((unhide L9).below ba)
      have QA := hide qa
      have QB := hide (Below.at ba (Array.getElem?_eq_some_iff.1 (unhide Q9)).1 (unhide Q9))
      have GA1 := hide (Below.at ba (Array.getElem?_eq_some_iff.1 (unhide G91)).1 (unhide G91))
      have GA2 := hide (Below.at ba (Array.getElem?_eq_some_iff.1 (unhide G92)).1 (unhide G92))
      have q2 := Below.at (unhide BA) (by have := unhide Z1; omega) (unhide p2)
      obtain ⟨G15, hG15⟩ : ∃ y, w9.heap.size = y := ⟨_, rfl⟩
      rw [hG15] at QA
      simp only [hG15]
      have n15 : Hid (¬ S6 G15) := hide fun h => by have := (unhide L9).old _ h; omega
      clear qa ba ya Q9 G91 G92
      go_wp2_with (refine wpList_load_row rfl 23 (.tmp 6) rfl (w.heap.size + 1 + 1) rfl 23 _ (0, 0) _ q2 Tryd.underlying23 rfl hi2 ?_)
      refine (unhide CR g (g + 1) L S6 I6 (by have := unhide LE6; simp at this; omega) _ (unhide LA) (Array.getElem?_eq_some_iff.1 (unhide GA1)).1 (Array.getElem?_eq_some_iff.1 (unhide GA2)).1 (unhide n6).1 (unhide n6).2 (bytes_of_row (unhide GA1)) (bytes_of_row (unhide GA2))).mono ?_
      rintro e1 wb ⟨rfl, Sb, Ib, hLb, bub, hsb, mob, ntb, leb⟩
      have BB := hide ((unhide BA).trans (bub.to_below w1.heap.size (unhide HS6) zza))
      have zzb : w1.heap.size ≤ wb.heap.size := (unhide BB).size
      have qv := (bub.block _ (Array.getElem?_eq_some_iff.1 (unhide QA)).1 (unhide n15)).trans (unhide QA)
      have qw := (bub.block _ (Array.getElem?_eq_some_iff.1 (unhide QB)).1 (unhide n12)).trans (unhide QB)
      have LB := hide hLb
      have hcl := hide (unhide HC Ib (fun j hj => ⟨mob _ ((unhide NT6).1 j hj).1, mob _ ((unhide NT6).1 j hj).2⟩) (mob _ (unhide NT6).2) ntb.2)
      clear hLb bub hsb mob ntb leb q2
      go_wp2_with fail
      refine (unhide CA _ ((unhide T1).below (unhide BB) (Nat.le_refl _))).mono ?_
      rintro e1 wc ⟨rfl, bc'⟩
      have BC := hide ((unhide BB).trans (bc'.mono zzb))
      have LC := hide ((unhide LB).below bc')
      have qv2 := Below.at bc' (Array.getElem?_eq_some_iff.1 qv).1 qv
      have qw2 := Below.at bc' (Array.getElem?_eq_some_iff.1 qw).1 qw
      clear bc' qv qw
      go_wp2_with (first
        | (refine wpList_load_row_gd rfl 23 (.tmp 15) rfl G15 rfl 23 _ (0, 0) _ qv2 Tryd.underlying23 rfl hiV ?_)
        | (refine wpList_load_row_gd rfl 23 (.tmp 12) rfl G12 rfl 23 _ (0, 0) _ qw2 Tryd.underlying23 rfl hiW ?_)
        | (refine wpList_neq_gm rfl 23 23 (.tmp 73) (.tmp 74) rfl _ _ rfl rfl (by kernel_rfl) _ (unhide hEQ) ?_))
      have cl := rclash_calls L Sb Ib wc (unhide LC)
      rw [decide_eq_true (unhide hcl)] at cl
      refine cl.mono ?_
      rintro e1 wd ⟨rfl, bd⟩
      go_wp2_with fail
      go_ret
      exact ⟨rfl, (unhide B1).trans (((unhide BC).trans (bd.mono (unhide BC).size)).mono (unhide B1).size)⟩
theorem lamportBinds_walk (s d e : List UInt8) (hs : s.length = 32) (hd : d.length = 32) (he : e.length = 32) (x : Int) (w : World) (tabs : Tabs w) :
    Calls Tryd.prog 5 #[.agg (bc s), .agg (bc d), .agg (bc e), .int .i64 x] w fun e w' => e = .returned (.bool true) ∧ Below w.heap.size w w' := by
  obtain ⟨index, hx⟩ : ∃ index : Nat, x % 4294967296 = (index : Int) := ⟨(x % 4294967296).toNat, by omega⟩
  by_cases hall : ∀ j, j < 32 → pBit d j = pBit e j
  · exact lamportBinds_A s d e hs hd he x index hx w tabs hall
  · by_cases hne : pWordOf (pOpen e (pParts s index d 32) (pOthers s index d 32) 32) = pWord s index
    · exact lamportBinds_C s d e hs hd he x index hx w tabs hall hne
    · exact lamportBinds_B s d e hs hd he x index hx w tabs hall hne
end Go.Proofs.YtdlgkmaknoaodaaDoor

namespace Go.Proofs.YtdlgkmaknoaodaaDoor
open Go.ChangeShapes Go.WideShapes Go.ChangeAt Go.RowKit

theorem shaOwn : ownKnob Tryd.prog.godebug = none := by kernel_rfl
theorem shaLaidOut : laidOutB Tryd.prog = true := by kernel_rfl
theorem gFirst : Tryd.prog.globalNamed "pontoon/sha.firstWords" = some 0 := by kernel_rfl
theorem gFirstType : (Tryd.prog.globals[0]?).map (·.type) = some 85 := by kernel_rfl
theorem gRound : Tryd.prog.globalNamed "pontoon/sha.roundWords" = some 1 := by kernel_rfl
theorem gRoundType : (Tryd.prog.globals[1]?).map (·.type) = some 104 := by kernel_rfl
theorem cells64 : Tryd.prog.cellsOf 104 = 64 := by kernel_rfl
theorem cells8 : Tryd.prog.cellsOf 85 = 8 := by kernel_rfl
theorem cellsW : Tryd.prog.cellsOf 60 = 1 := by kernel_rfl

/-- What a row lists of package sha. -/
def shaListed : List (String × DataW Unit) := [("pontoon/sha.firstWords", Rows.laid_pontoon_sha_firstWords), ("pontoon/sha.roundWords", Rows.laid_pontoon_sha_roundWords)]
def kInts : List Int := [1116352408, 1899447441, 3049323471, 3921009573, 961987163, 1508970993, 2453635748, 2870763221, 3624381080, 310598401, 607225278, 1426881987, 1925078388, 2162078206, 2614888103, 3248222580, 3835390401, 4022224774, 264347078, 604807628, 770255983, 1249150122, 1555081692, 1996064986, 2554220882, 2821834349, 2952996808, 3210313671, 3336571891, 3584528711, 113926993, 338241895, 666307205, 773529912, 1294757372, 1396182291, 1695183700, 1986661051, 2177026350, 2456956037, 2730485921, 2820302411, 3259730800, 3345764771, 3516065817, 3600352804, 4094571909, 275423344, 430227734, 506948616, 659060556, 883997877, 958139571, 1322822218, 1537002063, 1747873779, 1955562222, 2024104815, 2227730452, 2361852424, 2428436474, 2756734187, 3204031479, 3329325298]
def hInts : List Int := [1779033703, 3144134277, 1013904242, 2773480762, 1359893119, 2600822924, 528734635, 1541459225]
theorem kInts_at : ∀ j, j < 64 → kInts.getD j 0 = ((kWords.getD j 0).toNat : Int) := by decide +kernel
theorem hInts_at : ∀ j, j < 8 → hInts.getD j 0 = ((hWords.getD j 0).toNat : Int) := by decide +kernel

theorem tabs_of {W : World} (h : laidMetH Tryd.prog shaListed W) : Tabs W := by
  have h1 : Lib.TabIs Tryd.prog W "pontoon/sha.firstWords" .u32 hInts :=
    Lib.tabIs_of_head (rest := [("pontoon/sha.roundWords", Rows.laid_pontoon_sha_roundWords)]) gFirst gFirstType Tryd.underlying85 Tryd.underlying60 cellsW cells8 h
  have e : shaListed.filter (fun x => x.1 == "pontoon/sha.roundWords") = [("pontoon/sha.roundWords", Rows.laid_pontoon_sha_roundWords)] := by kernel_rfl
  have hf := h.filter (fun x => x.1 == "pontoon/sha.roundWords")
  rw [e] at hf
  have h2 : Lib.TabIs Tryd.prog W "pontoon/sha.roundWords" .u32 kInts :=
    Lib.tabIs_of_head (rest := []) gRound gRoundType Tryd.underlying104 Tryd.underlying60 cellsW cells64 hf
  have k : ∀ j, j < 64 → W.cell? ⟨1, j, none⟩ = some (.int .u32 ((kWords.getD j 0).toNat : Int)) := fun j hj => by
    rw [← kInts_at j hj]; exact h2.cell gRound j (by simpa [kInts] using hj)
  have hh : ∀ j, j < 8 → W.cell? ⟨0, j, none⟩ = some (.int .u32 ((hWords.getD j 0).toNat : Int)) := fun j hj => by
    rw [← hInts_at j hj]; exact h1.cell gFirst j (by simpa [hInts] using hj)
  exact ⟨⟨block_lt_of_cell (hh 0 (by decide)), block_lt_of_cell (k 0 (by decide))⟩, k, hh⟩

/-- A variable's cells turned. -/
def layCells (cs : Array Value) : Obj → Obj
  | .cells _ t frozen => .cells cs t frozen
  | o => o
def hCells : Array Value := #[.int .u32 1779033703, .int .u32 3144134277, .int .u32 1013904242, .int .u32 2773480762, .int .u32 1359893119, .int .u32 2600822924, .int .u32 528734635, .int .u32 1541459225]
def kCells : Array Value := #[.int .u32 1116352408, .int .u32 1899447441, .int .u32 3049323471, .int .u32 3921009573, .int .u32 961987163, .int .u32 1508970993, .int .u32 2453635748, .int .u32 2870763221, .int .u32 3624381080, .int .u32 310598401, .int .u32 607225278, .int .u32 1426881987, .int .u32 1925078388, .int .u32 2162078206, .int .u32 2614888103, .int .u32 3248222580, .int .u32 3835390401, .int .u32 4022224774, .int .u32 264347078, .int .u32 604807628, .int .u32 770255983, .int .u32 1249150122, .int .u32 1555081692, .int .u32 1996064986, .int .u32 2554220882, .int .u32 2821834349, .int .u32 2952996808, .int .u32 3210313671, .int .u32 3336571891, .int .u32 3584528711, .int .u32 113926993, .int .u32 338241895, .int .u32 666307205, .int .u32 773529912, .int .u32 1294757372, .int .u32 1396182291, .int .u32 1695183700, .int .u32 1986661051, .int .u32 2177026350, .int .u32 2456956037, .int .u32 2730485921, .int .u32 2820302411, .int .u32 3259730800, .int .u32 3345764771, .int .u32 3516065817, .int .u32 3600352804, .int .u32 4094571909, .int .u32 275423344, .int .u32 430227734, .int .u32 506948616, .int .u32 659060556, .int .u32 883997877, .int .u32 958139571, .int .u32 1322822218, .int .u32 1537002063, .int .u32 1747873779, .int .u32 1955562222, .int .u32 2024104815, .int .u32 2227730452, .int .u32 2361852424, .int .u32 2428436474, .int .u32 2756734187, .int .u32 3204031479, .int .u32 3329325298]
/-- A world for the witness: the settled one, the two tables holding what their initialisers lay. -/
noncomputable def shaWorld (os : Os) : World :=
  { World.holding Tryd.prog os ⟨#[], #[], []⟩ with heap := ((World.holding Tryd.prog os ⟨#[], #[], []⟩).heap.modify 0 (layCells hCells)).modify 1 (layCells kCells) }
theorem addr_add (b o j : Nat) : (⟨b, o, none⟩ : Addr).add j = ⟨b, o + j, none⟩ := by unfold Addr.add; split <;> simp_all

end Go.Proofs.YtdlgkmaknoaodaaDoor

namespace Go.Proofs.YtdlgkmaknoaodaaDoor
open Go.ChangeShapes Go.WideShapes Go.ChangeAt Go.RowKit

theorem mapM_ints {H : Type} {enc : TypeId × Value → H} {P : Program} {W : World} {base : Nat} {sp : Nat → Bool} {held : Bool} {e : TypeId} {q : IntKind} (he : P.underlying e = some (.int q)) {m : Nat} {cs : List Value} {c : Nat} :
    ∀ (L : List Nat) (xs : List (DataW H × List MemPlace)), L.mapM (fun i => DataW.trod enc P W base sp held m e ((cs.drop (i * c)).take c)) = some xs → ∀ i ∈ L, ∃ a, (cs.drop (i * c)).take c = [.int q a] ∧ (Lit.int q a).wf = true
  | [], xs, h => by intro i hi; cases hi
  | i :: L, xs, h => by
    rw [List.mapM_cons] at h
    simp only [bind, Option.bind_eq_some_iff, pure, Option.some.injEq] at h
    obtain ⟨y, hy, ys, hys, rfl⟩ := h
    intro j hj
    rcases List.mem_cons.1 hj with rfl | hj
    · obtain ⟨a, ea, _, wa⟩ := DataW.trod_int he hy
      exact ⟨a, ea, wa⟩
    · exact mapM_ints he L ys hys j hj
/-- The numbers of an array that came in. -/
theorem open_numbers {H : Type} {enc : TypeId × Value → H} {P : Program} {W : World} {base : Nat} {sp : Nat → Bool} {held : Bool} {k e : TypeId} {n : Nat} {q : IntKind} (A : WideMaps.ArrKey P k e n) (he : P.underlying e = some (.int q))
    {xs : Array Value} (hn : xs.size = n) {d : DataW H} {ps : List MemPlace} (hd : DataW.Trod enc P W base sp held k (.agg xs) d ps) :
    ∃ zs : List Int, zs.length = n ∧ xs = (zs.map (Value.int q)).toArray ∧ ∀ z ∈ zs, (Lit.int q z).wf = true := by
  obtain ⟨fuel, hf⟩ := hd
  cases fuel with
  | zero => simp [DataW.trod] at hf
  | succ m =>
    rw [DataW.trod_step] at hf
    unfold DataW.trodStep at hf
    simp only [A.hu, Value.cells] at hf
    rw [if_pos (by rw [A.size]; simpa using hn)] at hf
    simp only [Option.map_eq_some_iff] at hf
    obtain ⟨ys, hy, e1⟩ := hf
    have hc := mapM_ints he _ ys hy
    rw [A.one] at hc
    have hc' : ∀ i, i < n → ∃ a, xs.toList[i]? = some (.int q a) ∧ (Lit.int q a).wf = true := fun i hi => by
      obtain ⟨a, ha, hw⟩ := hc i (List.mem_range.2 hi)
      refine ⟨a, ?_, hw⟩
      rw [Nat.mul_one] at ha
      have h0 : ((xs.toList.drop i).take 1)[0]? = some (.int q a) := by rw [ha]; rfl
      simpa using h0
    refine ⟨xs.toList.map intOf, by simpa using hn, ?_, ?_⟩
    · apply Array.ext'
      simp only [List.map_map]
      apply List.ext_getElem?
      intro i
      by_cases hi : i < n
      · obtain ⟨a, ha, _⟩ := hc' i hi
        rw [ha]; simp [ha, intOf]
      · rw [List.getElem?_eq_none (by simpa [hn] using Nat.le_of_not_lt hi), List.getElem?_eq_none (by simpa [hn] using Nat.le_of_not_lt hi)]
    · intro z hz
      obtain ⟨v, hv, rfl⟩ := List.mem_map.1 hz
      obtain ⟨i, hi, rfl⟩ := List.getElem_of_mem hv
      obtain ⟨a, ha, hw⟩ := hc' i (by simpa [hn] using hi)
      rw [List.getElem?_eq_getElem hi] at ha
      rw [Option.some.inj ha]; exact hw
end Go.Proofs.YtdlgkmaknoaodaaDoor

namespace Go.Proofs.YtdlgkmaknoaodaaDoor
open Go.ChangeShapes Go.WideShapes Go.ChangeAt Go.RowKit
set_option linter.unusedVariables false

theorem arrD : WideMaps.ArrKey Tryd.prog 23 5 32 := ⟨Tryd.underlying23, by kernel_rfl, by kernel_rfl, by kernel_rfl⟩
theorem open_digest {H : Type} {enc : TypeId × Value → H} {W : World} {base : Nat} {sp : Nat → Bool} {held : Bool} {xs : Array Value} (hn : xs.size = 32) {d : DataW H} {ps : List MemPlace} (hd : DataW.Trod enc Tryd.prog W base sp held 23 (.agg xs) d ps) :
    ∃ l : List UInt8, xs = bc l ∧ l.length = 32 := by
  obtain ⟨zs, hl, rfl, hw⟩ := open_numbers arrD Tryd.underlying5 hn hd
  have e : ∀ z ∈ zs, ((UInt8.ofNat z.toNat).toNat : Int) = z := fun z hz => by
    have := hw z hz
    simp [Lit.wf, IntKind.min, IntKind.max, IntKind.signed, IntKind.bits] at this
    rw [UInt8.toNat_ofNat']; omega
  refine ⟨zs.map fun z => UInt8.ofNat z.toNat, ?_, by simpa using hl⟩
  unfold bc Lib.byteCells
  rw [List.map_map]
  congr 1
  apply List.map_congr_left
  intro z hz
  simp only [Function.comp_apply]
  rw [e z hz]
end Go.Proofs.YtdlgkmaknoaodaaDoor
