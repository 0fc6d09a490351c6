/-
  A SIGNATURE WITH A PART TURNED.
-/
/-
  A WHOLE ROW LOADED WHERE A GUARD LETS IT. Over whatever program.
-/
/-
  == AND != OF TWO DIGESTS.
-/
/-
  LamportTurns: a signature with a part or another half turned isn't opened to the key's word, unless two inputs clash.
-/
import Derived.Test.YtdlgkmaknoaodaaDoorJ4
import Derived.Laws.BitsAllLaws
import Derived.Test.YtdlgkmaknoaodaaDoorJ0
import Derived.Test.YtdlgkmaknoaodaaDoorJ2
import Derived.Test.YtdlgkmaknoaodaaDoorJ1
namespace Go.Proofs.YtdlgkmaknoaodaaDoor
open Go Go.RowKit
set_option linter.unusedSimpArgs false
set_option linter.unusedVariables false

/-- Place k's first m bytes turned. -/
def tn (L t : List UInt8) (k : Nat) : Nat → List UInt8
  | 0 => L
  | m + 1 => (tn L t k m).set (k * 32 + m) ((tn L t k m).getD (k * 32 + m) 0 ^^^ t.getD m 0)
theorem tn_length (L t : List UInt8) (k : Nat) : ∀ m, (tn L t k m).length = L.length
  | 0 => rfl
  | m + 1 => by rw [tn, List.length_set, tn_length L t k m]
theorem tn_behind (L t : List UInt8) (k : Nat) : ∀ m j, k * 32 + m ≤ j → (tn L t k m).getD j 0 = L.getD j 0
  | 0, j, _ => rfl
  | m + 1, j, h => by
    rw [tn, List.getD_eq_getElem?_getD, List.getElem?_set_ne (by omega), ← List.getD_eq_getElem?_getD]
    exact tn_behind L t k m j (by omega)
theorem tn_at (L t : List UInt8) (k : Nat) : ∀ m, m ≤ 32 → ∀ j, j < m → k * 32 + 32 ≤ L.length → (tn L t k m).getD (k * 32 + j) 0 = L.getD (k * 32 + j) 0 ^^^ t.getD j 0
  | 0, _, j, h, _ => by omega
  | m + 1, hm, j, h, hl => by
    by_cases e : j = m
    · subst e
      rw [tn, List.getD_eq_getElem?_getD, List.getElem?_set_self (by rw [tn_length]; omega), Option.getD_some, tn_behind L t k j _ (Nat.le_refl _)]
    · rw [tn, List.getD_eq_getElem?_getD, List.getElem?_set_ne (by omega), ← List.getD_eq_getElem?_getD]
      exact tn_at L t k m (by omega) j (by omega) hl
theorem chunk_getD (L : List UInt8) (k m : Nat) (hm : m < 32) : (chunk L k).getD m 0 = L.getD (k * 32 + m) 0 := by
  unfold chunk
  rw [List.getD_eq_getElem?_getD, List.getD_eq_getElem?_getD, List.getElem?_take, if_pos hm, List.getElem?_drop, Nat.mul_comm 32 k]
theorem turn_at (t : List UInt8) (ht : t.length = 32) (hne : t ≠ List.replicate 32 0) : ∃ m, m < 32 ∧ t.getD m 0 ≠ 0 := by
  refine Classical.byContradiction fun h => hne ?_
  apply List.ext_getElem (by simp [ht])
  intro i h1 h2
  have : t.getD i 0 = 0 := Classical.byContradiction fun h3 => h ⟨i, by omega, h3⟩
  rw [List.getD_eq_getElem?_getD, List.getElem?_eq_getElem h1] at this
  rw [List.getElem_replicate]
  simpa using this
theorem tn_chunk (L t : List UInt8) (k : Nat) (hL : k * 32 + 32 ≤ L.length) (ht : t.length = 32) (hne : t ≠ List.replicate 32 0) : chunk (tn L t k 32) k ≠ chunk L k := by
  intro h
  obtain ⟨m, hm, hm2⟩ := turn_at t ht hne
  have h1 := congrArg (fun l => List.getD l m 0) h
  rw [chunk_getD _ _ _ hm, chunk_getD _ _ _ hm, tn_at L t k 32 (Nat.le_refl _) m hm hL] at h1
  have h2 := congrArg UInt8.toNat h1
  apply hm2
  apply UInt8.toNat_inj.1
  rw [UInt8.toNat_xor] at h2
  have h3 : (L.getD (k * 32 + m) 0).toNat ^^^ ((L.getD (k * 32 + m) 0).toNat ^^^ (t.getD m 0).toNat) = (L.getD (k * 32 + m) 0).toNat ^^^ (L.getD (k * 32 + m) 0).toNat := by rw [h2]
  rw [← Nat.xor_assoc, Nat.xor_self, Nat.zero_xor] at h3
  exact h3
theorem bc_setT (L : List UInt8) (j : Nat) (b : UInt8) : (bc L).setIfInBounds j (.int .u8 (b.toNat : Int)) = bc (L.set j b) := by
  unfold bc Lib.byteCells
  apply Array.ext'
  simp [List.map_set]
theorem pub_noted (seed : List UInt8) (index : Nat) (J : List (List UInt8)) (hw : WNoted seed index 64 J) (i b : Nat) (hi : i < 32) (hb : b < 2) : uIn (pSecret seed index i b) ∈ J := by
  have := (hw (2 * i + b) (by omega)).2
  rwa [show (2 * i + b) / 2 = i by omega, show (2 * i + b) % 2 = b by omega] at this
theorem turns_parts (seed : List UInt8) (index : Nat) (d P' : List UInt8) (hP : P'.length = 1024) (J : List (List UInt8)) (hw : WNoted seed index 64 J) (h1 : wIn (pubs seed index 64) ∈ J) (hu : ∀ j, j < 32 → uIn (chunk P' j) ∈ J) (h2 : wIn (pOpen d P' (pOthers seed index d 32) 32) ∈ J)
    (h : pWordOf (pOpen d P' (pOthers seed index d 32) 32) = pWord seed index) (k : Nat) (hk : k < 32) (hne : chunk P' k ≠ chunk (pParts seed index d 32) k) : cnt J < J.length := by
  refine Classical.byContradiction fun hap => hne ?_
  have ho := word_open seed index d _ _ hP (pOthers_length _ _ _ _) J hap h1 h2 h k hk
  have hb := pBit_lt d k
  have hl := chunk_length P' k (by omega)
  rw [part_chunk seed index d k hk]
  unfold openAt at ho
  rw [other_chunk seed index d k hk, pubAt_even, pubAt_odd] at ho
  by_cases e0 : pBit d k = 0
  · rw [if_pos e0] at ho
    have h3 := (List.append_inj ho (by rw [pPublic_length, pPublic_length])).1
    rw [e0]
    exact uIn_inj hl (pSecret_length _ _ _ _) (apart_of J hap _ _ (hu k hk) (pub_noted seed index J hw k 0 hk (by omega)) h3)
  · have e1 : pBit d k = 1 := by omega
    rw [if_neg e0] at ho
    have h3 := (List.append_inj ho (by rw [pPublic_length, pPublic_length])).2
    rw [e1]
    exact uIn_inj hl (pSecret_length _ _ _ _) (apart_of J hap _ _ (hu k hk) (pub_noted seed index J hw k 1 hk (by omega)) h3)
theorem turns_others (seed : List UInt8) (index : Nat) (d O' : List UInt8) (hO : O'.length = 1024) (J : List (List UInt8)) (h1 : wIn (pubs seed index 64) ∈ J) (h2 : wIn (pOpen d (pParts seed index d 32) O' 32) ∈ J)
    (h : pWordOf (pOpen d (pParts seed index d 32) O' 32) = pWord seed index) (k : Nat) (hk : k < 32) (hne : chunk O' k ≠ chunk (pOthers seed index d 32) k) : cnt J < J.length := by
  refine Classical.byContradiction fun hap => hne ?_
  have ho := word_open seed index d _ _ (pParts_length _ _ _ _) hO J hap h1 h2 h k hk
  have hb := pBit_lt d k
  have hl := chunk_length O' k (by omega)
  rw [other_chunk seed index d k hk]
  unfold openAt at ho
  rw [part_chunk seed index d k hk, pubAt_even, pubAt_odd] at ho
  by_cases e0 : pBit d k = 0
  · rw [if_pos e0] at ho
    have h3 := (List.append_inj ho (by rw [pPublic_length, pPublic_length])).2
    rw [e0]; exact h3
  · have e1 : pBit d k = 1 := by omega
    rw [if_neg e0] at ho
    have h3 := (List.append_inj ho (by rw [hl, pPublic_length])).1
    rw [e1]; exact h3
end Go.Proofs.YtdlgkmaknoaodaaDoor

namespace Go.Proofs.YtdlgkmaknoaodaaDoor
open Go Go.RowKit

theorem wpList_load_row_gd {P : Program} {ops : Array Oper} {rest : List Oper} {o : Oper} {a : Act} {w : World} {Q : Exit → Act → World → Prop} (hw : Region.wanted o (yielded ops a.tmps) = true) (ty : TypeId) (x : Operand) (ho : o.op = .load ty x)
    (g : Nat) (hx : a.eval x = .pointer (some ⟨g, 0, none⟩)) (t : TypeId) (cs : Array Value) (fr : Nat × Nat) (d : TypeDesc) (hg : w.heap[g]? = some (.cells cs t fr))
    (hu : P.underlying ty = some d) (hd : (match d with | .struct _ | .array _ _ => true | _ => false) = true) (hi : (P.info? ty).map (·.size) = some cs.size)
    (h : wpList P ops Q rest (a.put o.dst (.agg cs)) w) : wpList P ops Q (o :: rest) a w :=
  wpList_step fun K hK => by
    rw [if_pos hw]
    exact wp_load_row ty x ho g hx t cs fr d hg hu hd hi (hK _ _ h)
end Go.Proofs.YtdlgkmaknoaodaaDoor

namespace Go.Proofs.YtdlgkmaknoaodaaDoor
open Go Go.RowKit
set_option linter.unusedSimpArgs false
set_option linter.unusedVariables false

theorem keyLits_ints' {P : Program} (t e : TypeId) (n : Nat) (k : IntKind) (hu : P.underlying t = some (.array n e)) (he : P.underlying e = some (.int k)) (hce : P.cellsOf e = 1) (hct : P.cellsOf t = n)
    (zs : List Int) (hl : zs.length = n) (hw : ∀ z ∈ zs, (Lit.int k z).wf = true) : P.keyLits 2 t (zs.map (Value.int k)) = some (zs.map (Lit.int k)) := by
  unfold Program.keyLits
  simp only [hu]
  rw [if_pos (by simp [hl, hct])]
  rw [mapM_some _ (fun i => [Lit.int k (zs.getD i 0)]) _ (fun i hi => ?_)]
  · have e : ((List.range n).map fun i => [Lit.int k (zs.getD i 0)]).flatten = zs.map (Lit.int k) := by
      apply List.ext_getElem?
      intro i
      have e1 : ((List.range n).map fun i => [Lit.int k (zs.getD i 0)]).flatten = (List.range n).map fun i => Lit.int k (zs.getD i 0) := by
        induction (List.range n) with
        | nil => rfl
        | cons x l ih => rw [List.map_cons, List.flatten_cons, ih]; rfl
      rw [e1]
      by_cases hi : i < n
      · simp [hi, hl]
      · simp [hi, hl]
    show some _ = some _
    rw [← e]
  · have hi' : i < zs.length := by rw [hl]; exact List.mem_range.1 hi
    rw [hce, Nat.mul_one, List.drop_eq_getElem_cons (by simpa using hi')]
    unfold Program.keyLits
    simp only [he]
    have hz : (Lit.int k zs[i]).wf = true := hw _ (List.getElem_mem _)
    simp [hz, hi']
theorem dig_lits (d : List UInt8) (hd : d.length = 32) : Tryd.prog.keyLits 2 23 (bc d).toList = some ((d.map fun b => (b.toNat : Int)).map (Lit.int .u8)) := by
  have := keyLits_ints' (P := Tryd.prog) 23 5 32 .u8 Tryd.underlying23 Tryd.underlying5 (by kernel_rfl) (by kernel_rfl) (d.map fun b => (b.toNat : Int)) (by simpa using hd) (fun z hz => by
    obtain ⟨b, _, rfl⟩ := List.mem_map.1 hz
    have := b.toNat_lt
    simp [Lit.wf, IntKind.min, IntKind.max, IntKind.signed, IntKind.bits]; omega)
  rw [← this]; simp [bc, Lib.byteCells]; rfl
theorem dig_formed (d : List UInt8) (hd : d.length = 32) : (Value.agg (bc d)).formed Tryd.prog 23 = true := by
  simp only [Value.formed, Tryd.underlying23, bc_size, hd]; kernel_rfl
theorem lits_inj (a b : List UInt8) (h : (a.map fun b => (b.toNat : Int)).map (Lit.int .u8) = (b.map fun b => (b.toNat : Int)).map (Lit.int .u8)) : a = b := by
  rw [List.map_map, List.map_map] at h
  refine List.map_inj_right (f := fun b : UInt8 => Lit.int .u8 (b.toNat : Int)) (fun x y hxy => ?_) |>.1 h
  injection hxy with _ h2
  exact UInt8.toNat_inj.1 (by omega)
theorem dig_eq (a b : List UInt8) (ha : a.length = 32) (hb : b.length = 32) (w : World) : (binOp .eql 23 (.agg (bc a)) (.agg (bc b))).run Tryd.prog w = .ok (.bool (decide (a = b))) w := by
  obtain ⟨r, hr, hiff⟩ := run_equalIn_deep (P := Tryd.prog) (10000 - 2) 2 23 (by kernel_rfl) w 2 2 (.agg (bc a)) (.agg (bc b)) _ _ (dig_formed a ha) (dig_formed b hb) (dig_lits a ha) (dig_lits b hb)
  rw [show 10000 - 2 + 2 = 10000 by omega] at hr
  have : r = decide (a = b) := by
    by_cases h : a = b
    · rw [decide_eq_true h]; exact hiff.2 (by rw [h])
    · rw [decide_eq_false h]
      cases r with
      | false => rfl
      | true => exact absurd (lits_inj a b (hiff.1 rfl)) h
  rw [run_eql_struct, hr, this]; rfl
end Go.Proofs.YtdlgkmaknoaodaaDoor

namespace Go.Proofs.YtdlgkmaknoaodaaDoor.turns
open Go Go.RowKit
set_option linter.unusedSimpArgs false
set_option linter.unusedVariables false

theorem wpList_build_to {P : Program} {ops : Array Oper} {rest : List Oper} {o : Oper} {a : Act} {w : World} {Q : Exit → Act → World → Prop} (hg : o.guard = none) (t : TypeId) (parts : Array (Nat × Operand)) (ho : o.op = .build t parts) (cells : Array Value)
    (hb : P.built t (parts.toList.map fun (i, x) => (i, a.eval x)) = some cells) (h : wpList P ops Q rest (a.put o.dst (.agg cells)) w) : wpList P ops Q (o :: rest) a w := by
  rw [← Array.toList_map] at hb
  refine wpList_build hg t parts ho (by rw [hb]; rfl) ?_
  rw [hb]; exact h
theorem wpList_eql_gm {P : Program} {ops : Array Oper} {rest : List Oper} {o : Oper} {a : Act} {w : World} {Q : Exit → Act → World → Prop} (hw : Region.wanted o (yielded ops a.tmps) = true) (t t' : TypeId) (x y : Operand) (ho : o.op = .binOp .eql t x y t')
    (u v : Array Value) (hx : a.eval x = .agg u) (hy : a.eval y = .agg v) (hgt : P.eqGuardType P.depth t = false) (b : Bool) (he : ∀ w, (binOp .eql t (.agg u) (.agg v)).run P w = .ok (.bool b) w)
    (h : wpList P ops Q rest (a.put o.dst (.bool b)) w) : wpList P ops Q (o :: rest) a w :=
  wpList_step fun K hK => by
    rw [if_pos hw]
    have hg : (eqGuard .eql t x y (.agg u) (.agg v)).run P w = .ok () w := run_eqGuard_agg w .eql t x y u v hgt
    unfold Oper.wp execOp
    simp only [ho, hx, hy, Sem.run_bind, hg, Result.andThen_ok, he]
    exact hK _ _ h
theorem wpList_neq_gm {P : Program} {ops : Array Oper} {rest : List Oper} {o : Oper} {a : Act} {w : World} {Q : Exit → Act → World → Prop} (hw : Region.wanted o (yielded ops a.tmps) = true) (t t' : TypeId) (x y : Operand) (ho : o.op = .binOp .neq t x y t')
    (u v : Array Value) (hx : a.eval x = .agg u) (hy : a.eval y = .agg v) (hgt : P.eqGuardType P.depth t = false) (b : Bool) (he : ∀ w, (binOp .neq t (.agg u) (.agg v)).run P w = .ok (.bool b) w)
    (h : wpList P ops Q rest (a.put o.dst (.bool b)) w) : wpList P ops Q (o :: rest) a w :=
  wpList_step fun K hK => by
    rw [if_pos hw]
    have hg : (eqGuard .neq t x y (.agg u) (.agg v)).run P w = .ok () w := run_eqGuard_agg w .neq t x y u v hgt
    unfold Oper.wp execOp
    simp only [ho, hx, hy, Sem.run_bind, hg, Result.andThen_ok, he]
    exact hK _ _ h
theorem dig_neqL (a b : List UInt8) (ha : a.length = 32) (hb : b.length = 32) (w : World) : (binOp .neq 23 (.agg (bc a)) (.agg (bc b))).run Tryd.prog w = .ok (.bool (!decide (a = b))) w := by
  have h := dig_eq a b ha hb w
  simp only [binOp, Op.equal] at h ⊢
  revert h
  simp only [Sem.run_bind]
  cases hh : (Op.equalIn Op.maxDepth 23 (.agg (bc a)) (.agg (bc b))).run Tryd.prog w with
  | ok v w' => intro h; simp [Result.andThen_ok] at h ⊢; obtain ⟨h1, h2⟩ := h; exact ⟨by simp [h1], h2⟩
  | halt e w' => intro h; simp [Result.andThen] at h
set_option maxHeartbeats 8000000 in
set_option maxRecDepth 100000 in
theorem lamportTurns_zero (s d t : List UInt8) (hs : s.length = 32) (hd : d.length = 32) (ht : t.length = 32) (x : Int) (index : Nat) (hx : x % 4294967296 = (index : Int)) (y : Int) (w : World) (tabs : Tabs w) (o : Bool) (hz : t = List.replicate 32 0) :
    Calls Tryd.prog 6 #[.agg (bc s), .agg (bc d), .agg (bc t), .int .i64 x, .int .i64 y, .bool o] w fun e w' => e = .returned (.bool true) ∧ Below w.heap.size w w' := by
  have hi0 := digInfo s hs
  have hi1 := digInfo d hd
  have hi2 := digInfo t ht
  have hbu : Hid (Tryd.prog.built 23 [] = some (bc (List.replicate 32 0))) := hide (by kernel_rfl)
  have hTE := hide fun W => dig_eq t (List.replicate 32 0) ht (by simp) W
  rw [decide_eq_true hz] at hTE
  have CA := hide fun W t => lawake_calls W t
  have HT := hide tabs
  obtain ⟨q0, q1, q2⟩ := al3 w (.cells (bc s) 23) (.cells (bc d) 23) (.cells (bc t) 23)
  have b0 := bel3 w (.cells (bc s) 23) (.cells (bc d) 23) (.cells (bc t) 23)
  have sX : (((w.alloc (.cells (bc s) 23)).alloc (.cells (bc d) 23)).alloc (.cells (bc t) 23)).heap.size = w.heap.size + 1 + 1 + 1 := by simp
  obtain ⟨X, hX⟩ : ∃ X, ((w.alloc (.cells (bc s) 23)).alloc (.cells (bc d) 23)).alloc (.cells (bc t) 23) = X := ⟨_, rfl⟩
  rw [hX] at q0 q1 q2 b0 sX
  have HX := hide hX
  have SX := hide sX
  have TX := (unhide HT).below b0 (Nat.le_refl _)
  have B0 := hide b0
  obtain ⟨Z0, hZ0⟩ : ∃ z, bc (List.replicate 32 (0 : UInt8)) = z := ⟨_, rfl⟩
  rw [hZ0] at hbu hTE
  clear hz hX sX b0 tabs hZ0
  go_enter Tryd.func6, Tryd.ntmps6
  go_upto_region 1 with fail
  change Code.wp _ _ _ _ (((w.alloc (.cells (bc s) 23)).alloc (.cells (bc d) 23)).alloc (.cells (bc t) 23))
  rw [unhide HX]
  go_wp2_with fail
  refine (unhide CA _ TX).mono ?_
  rintro e1 w1 ⟨rfl, b1⟩
  have p0 := hide (Below.at b1 (Array.getElem?_eq_some_iff.1 q0).1 q0)
  have p1 := hide (Below.at b1 (Array.getElem?_eq_some_iff.1 q1).1 q1)
  have p2 := hide (Below.at b1 (Array.getElem?_eq_some_iff.1 q2).1 q2)
  have B1 := hide ((unhide B0).trans (b1.mono (unhide B0).size))
  have T1 := hide (TX.below b1 (Nat.le_refl _))
  have z1 : w.heap.size + 1 + 1 < w1.heap.size := (Array.getElem?_eq_some_iff.1 (unhide p2)).1
  have Z1 := hide z1
  have q2' := unhide p2
  clear q0 q1 q2 b1 TX z1
  go_wp2_with (first
    | (refine wpList_load_row rfl 23 (.tmp 8) rfl (w.heap.size + 1 + 1) rfl 23 _ (0, 0) _ q2' Tryd.underlying23 rfl hi2 ?_)
    | (refine wpList_build_to rfl 23 #[] rfl Z0 (unhide hbu) ?_)
    | (refine wpList_eql_gm rfl 23 23 (.tmp 24) (.tmp 25) rfl _ _ rfl rfl (by kernel_rfl) _ (unhide hTE) ?_))
  refine (unhide CA _ (unhide T1)).mono ?_
  rintro e1 w2 ⟨rfl, b2⟩
  go_wp2_with fail
  go_ret
  exact ⟨rfl, (unhide B1).trans (b2.mono (unhide B1).size)⟩
set_option maxHeartbeats 8000000 in
set_option maxRecDepth 100000 in
theorem lamportTurns_00 (s d t : List UInt8) (hs : s.length = 32) (hd : d.length = 32) (ht : t.length = 32) (x : Int) (index : Nat) (hx : x % 4294967296 = (index : Int)) (y : Int) (w : World) (tabs : Tabs w) (hz : t ≠ List.replicate 32 0) (n k : Nat) (hn : y % 18446744073709551616 = (n : Int)) (hk : n % 32 = k) (hne : pWordOf (pOpen d (tn (pParts s index d 32) t k 32) (pOthers s index d 32) 32) ≠ pWord s index) :
    Calls Tryd.prog 6 #[.agg (bc s), .agg (bc d), .agg (bc t), .int .i64 x, .int .i64 y, .bool false] w fun e w' => e = .returned (.bool true) ∧ Below w.heap.size w w' := by
  have hk32 : k < 32 := by omega
  have hPl := pParts_length s index d 32
  have hOl := pOthers_length s index d 32
  have hPl2 : (tn (pParts s index d 32) t k 32).length = 1024 := by rw [tn_length]; exact hPl
  have hOl2 : (pOthers s index d 32).length = 1024 := by exact hOl
  have hW := pOf_length 3 [pubs s index 64]
  have hV := pOf_length 3 [pOpen d (tn (pParts s index d 32) t k 32) (pOthers s index d 32) 32]
  change (pWord s index).length = 32 at hW
  change (pWordOf (pOpen d (tn (pParts s index d 32) t k 32) (pOthers s index d 32) 32)).length = 32 at hV
  have hEQ := hide fun W => dig_neqL _ _ hV hW W
  rw [decide_eq_false hne] at hEQ
  have hiW := digInfo (pWord s index) hW
  have hzW := zeroSize (pWord s index) hW
  have hiV := digInfo (pWordOf (pOpen d (tn (pParts s index d 32) t k 32) (pOthers s index d 32) 32)) hV
  have hzV := zeroSize (pWordOf (pOpen d (tn (pParts s index d 32) t k 32) (pOthers s index d 32) 32)) hV
  have CS := hide fun W t => sign_calls s hs d hd x index hx W t
  have CW := hide fun L S I hI W hL => rwordQ_calls s hs x index hx L S I hI W hL
  have CO := hide fun g1 g2 W h1 h2 b1 b2 tt => opened_calls d hd (tn (pParts s index d 32) t k 32) (pOthers s index d 32) hPl2 hOl2 g1 0 32 g2 0 32 W h1 h2 b1 b2 tt
  have CR := hide fun g1 g2 L S I hI W hL h1 h2 n1 n2 b1 b2 => ropenedQ_calls d hd (tn (pParts s index d 32) t k 32) (pOthers s index d 32) hPl2 hOl2 g1 0 32 g2 0 32 L S I hI W hL h1 h2 n1 n2 b1 b2
  generalize pWordOf (pOpen d (tn (pParts s index d 32) t k 32) (pOthers s index d 32) 32) = DV at *
  generalize pWord s index = DW at *
  have hw1 : IntKind.u64.wrap y = (n : Int) := by rw [IntKind.wrap_u64]; exact hn
  have hw2 : (n : Int).tmod 32 = (k : Int) := by rw [Int.tmod_eq_emod_of_nonneg (by omega)]; omega
  have hw3 : IntKind.i64.wrap (k : Int) = (k : Int) := by rw [IntKind.wrap_i64]; omega
  have hk64 : (k : Int) < 32 := by omega
  have HK := hide hk32
  have HTL := hide ht
  have hi0 := digInfo s hs
  have hi1 := digInfo d hd
  have hi2 := digInfo t ht
  have hbu : Hid (Tryd.prog.built 23 [] = some (bc (List.replicate 32 0))) := hide (by kernel_rfl)
  have hTE := hide fun W => dig_eq t (List.replicate 32 0) ht (by simp) W
  rw [decide_eq_false hz] at hTE
  have CA := hide fun W t => lawake_calls W t
  have HT := hide tabs
  obtain ⟨q0, q1, q2⟩ := al3 w (.cells (bc s) 23) (.cells (bc d) 23) (.cells (bc t) 23)
  have b0 := bel3 w (.cells (bc s) 23) (.cells (bc d) 23) (.cells (bc t) 23)
  have sX : (((w.alloc (.cells (bc s) 23)).alloc (.cells (bc d) 23)).alloc (.cells (bc t) 23)).heap.size = w.heap.size + 1 + 1 + 1 := by simp
  obtain ⟨X, hX⟩ : ∃ X, ((w.alloc (.cells (bc s) 23)).alloc (.cells (bc d) 23)).alloc (.cells (bc t) 23) = X := ⟨_, rfl⟩
  rw [hX] at q0 q1 q2 b0 sX
  have HX := hide hX
  have SX := hide sX
  have TX := (unhide HT).below b0 (Nat.le_refl _)
  have B0 := hide b0
  obtain ⟨Z0, hZ0⟩ : ∃ z, bc (List.replicate 32 (0 : UInt8)) = z := ⟨_, rfl⟩
  rw [hZ0] at hbu hTE
  clear hz hne hV hW hPl hOl hPl2 hOl2 hx hn hk hX sX b0 tabs hZ0
  go_enter Tryd.func6, Tryd.ntmps6
  go_upto_region 1 with fail
  change Code.wp _ _ _ _ (((w.alloc (.cells (bc s) 23)).alloc (.cells (bc d) 23)).alloc (.cells (bc t) 23))
  rw [unhide HX]
  go_wp2_with fail
  refine (unhide CA _ TX).mono ?_
  rintro e1 w1 ⟨rfl, b1⟩
  have p0 := hide (Below.at b1 (Array.getElem?_eq_some_iff.1 q0).1 q0)
  have p1 := hide (Below.at b1 (Array.getElem?_eq_some_iff.1 q1).1 q1)
  have p2 := hide (Below.at b1 (Array.getElem?_eq_some_iff.1 q2).1 q2)
  have B1 := hide ((unhide B0).trans (b1.mono (unhide B0).size))
  have T1 := hide (TX.below b1 (Nat.le_refl _))
  have z1 : w.heap.size + 1 + 1 < w1.heap.size := (Array.getElem?_eq_some_iff.1 (unhide p2)).1
  have Z1 := hide z1
  have q2' := unhide p2
  clear q0 q1 q2 b1 TX z1
  go_wp2_with (first
    | (refine wpList_load_row rfl 23 (.tmp 8) rfl (w.heap.size + 1 + 1) rfl 23 _ (0, 0) _ q2' Tryd.underlying23 rfl hi2 ?_)
    | (refine wpList_build_to rfl 23 #[] rfl Z0 (unhide hbu) ?_)
    | (refine wpList_eql_gm rfl 23 23 (.tmp 24) (.tmp 25) rfl _ _ rfl rfl (by kernel_rfl) _ (unhide hTE) ?_))
  refine (rnewLog_calls _).mono ?_
  rintro e1 w4 ⟨rfl, hL4, b4, z4⟩
  obtain ⟨L, hLL⟩ : ∃ B, w1.heap.size + 1 = B := ⟨_, rfl⟩
  obtain ⟨S4, hS4⟩ : ∃ S : Nat → Prop, (fun k => w1.heap.size ≤ k ∧ k < w1.heap.size + 2) = S := ⟨_, rfl⟩
  have HS4 : Hid (∀ k, S4 k → w1.heap.size ≤ k) := hide fun k h => by rw [← hS4] at h; exact h.1
  rw [hLL, hS4] at hL4
  rw [hLL]
  have L4 := hide hL4
  have B4 := hide b4
  have q0 := Below.at b4 (by have := unhide Z1; omega) (unhide p0)
  have q1 := Below.at b4 (by have := unhide Z1; omega) (unhide p1)
  clear hL4 b4 z4 hLL hS4 q2'
  go_wp2_with (first
    | (refine wpList_load_row rfl 23 (.tmp 6) rfl w.heap.size rfl 23 _ (0, 0) _ q0 Tryd.underlying23 rfl hi0 ?_)
    | (refine wpList_load_row rfl 23 (.tmp 7) rfl (w.heap.size + 1) rfl 23 _ (0, 0) _ q1 Tryd.underlying23 rfl hi1 ?_))
  refine (unhide CS _ ((unhide T1).below (unhide B4) (Nat.le_refl _))).mono ?_
  rintro e1 w5 ⟨g, hg, rfl, b5, g1, g2⟩
  have zz4 : w1.heap.size ≤ w4.heap.size := (unhide B4).size
  have B5 := hide ((unhide B4).trans (b5.mono zz4))
  have L5 := hide ((unhide L4).below b5)
  have HG := hide (Nat.le_trans zz4 hg)
  have G1 := hide g1
  have G2 := hide g2
  have hgS : Hid (∀ S : Nat → Prop, (∀ k, S k → S4 k ∨ w5.heap.size ≤ k) → ¬ S g ∧ ¬ S (g + 1)) := hide fun S h => ⟨fun h1 => (h _ h1).elim (fun h2 => by have := (unhide L4).old _ h2; omega) (fun h2 => by have := (Array.getElem?_eq_some_iff.1 (unhide G1)).1; omega), fun h1 => (h _ h1).elim (fun h2 => by have := (unhide L4).old _ h2; omega) (fun h2 => by have := (Array.getElem?_eq_some_iff.1 (unhide G2)).1; omega)⟩
  have q0 := Below.at (unhide B5) (by have := unhide Z1; omega) (unhide p0)
  clear b5 g1 g2 hg q1
  go_wp2_with (refine wpList_load_row rfl 23 (.tmp 6) rfl w.heap.size rfl 23 _ (0, 0) _ q0 Tryd.underlying23 rfl hi0 ?_)
  refine (unhide CW L S4 [] (by simp) _ (unhide L5)).mono ?_
  rintro e1 w6 ⟨rfl, S6, I6, hL6, bu6, hs6, _, nt6, le6⟩
  have zz5 : w1.heap.size ≤ w5.heap.size := (unhide B5).size
  have B6 := hide ((unhide B5).trans (bu6.to_below w1.heap.size (unhide HS4) zz5))
  have HS6 : Hid (∀ k, S6 k → w1.heap.size ≤ k) := hide fun k h => (hs6 k h).elim (unhide HS4 k) (Nat.le_trans zz5)
  have zz6 : w1.heap.size ≤ w6.heap.size := (unhide B6).size
  have L6 := hide hL6
  have NT6 := hide nt6
  have LE6 := hide le6
  have n6 := hide (unhide hgS S6 hs6)
  have G61 := hide ((bu6.block g (Array.getElem?_eq_some_iff.1 (unhide G1)).1 (unhide hgS S4 (fun k h => .inl h)).1).trans (unhide G1))
  have G62 := hide ((bu6.block (g + 1) (Array.getElem?_eq_some_iff.1 (unhide G2)).1 (unhide hgS S4 (fun k h => .inl h)).2).trans (unhide G2))
  clear hL6 bu6 hs6 nt6 le6 q0
  go_upto_region 8 with (refine wpList_store_new rfl 23 (.tmp 16) (.tmp 39) rfl w6 _ _ DW rfl rfl hiW hzW ?_; intro w7 q12 b7 y7)
  have B7 := hide ((unhide B6).trans (b7.mono zz6))
  have zz7 : w1.heap.size ≤ w7.heap.size := (unhide B7).size
  have L7 := hide ((unhide L6).below b7)
  have Q12 := hide q12
  have G71 := hide (Below.at b7 (Array.getElem?_eq_some_iff.1 (unhide G61)).1 (unhide G61))
  have G72 := hide (Below.at b7 (Array.getElem?_eq_some_iff.1 (unhide G62)).1 (unhide G62))
  obtain ⟨G12, hG12⟩ : ∃ y, w6.heap.size = y := ⟨_, rfl⟩
  rw [hG12] at Q12
  simp only [hG12]
  have n12 : Hid (¬ S6 G12) := hide fun h => by have := (unhide L6).old _ h; omega
  have g12 : Hid (G12 ≠ g ∧ G12 ≠ g + 1) := hide ⟨by have := (Array.getElem?_eq_some_iff.1 (unhide G61)).1; omega, by have := (Array.getElem?_eq_some_iff.1 (unhide G62)).1; omega⟩
  have HTn : Hid (∀ m, m < 32 → (tn (pParts s index d 32) t k m).length = 1024) := hide fun m _ => by rw [tn_length]; simpa using pParts_length s index d 32
  clear q12 b7 y7
  go_wp2
  go_loopw [19, 47] (fun _ i wr => ∃ m : Nat, m ≤ 32 ∧ i = .int .i64 (m : Int) ∧ Hid (wr.heap[g]? = some (.cells (bc (tn (pParts s index d 32) t k m)) 23 (0, 0))) ∧ Hid (RBut (fun j => j = g) w7 wr)) (fun _ i _ => 32 - (intOf i).toNat)
  case atStart => exact ⟨0, by omega, rfl, G71, hide (RBut.refl _ _)⟩
  case round =>
    obtain ⟨m, hm, rfl, hrow, hbut⟩ := hrel
    by_cases hlt : m < 32
    · have hd1 : decide ((m : Int) < 32) = true := by simp; omega
      have bm : (0 : Int) ≤ m ∧ (m : Int) < 32 := by omega
      have bk : (0 : Int) ≤ k ∧ (k : Int) < 32 := by have := unhide HK; omega
      have q2 := (unhide hbut).block (w.heap.size + 1 + 1) (by have := unhide Z1; omega) (by have := unhide Z1; have := unhide HG; omega)
      have q2 := q2.trans (Below.at (unhide B7) (by have := unhide Z1; omega) (unhide p2))
      have c1 : ∀ dd os, (Sort.grow (redrawn wr dd) os).cell? ⟨g, k * 32 + m, none⟩ = some (.int .u8 (((tn (pParts s index d 32) t k m).getD (k * 32 + m) 0).toNat : Int)) := fun dd os => by
        rw [cell_of_row _ _ _ _ _ _ (Below.at (below_regrown wr dd os) (Array.getElem?_eq_some_iff.1 (unhide hrow)).1 (unhide hrow)), bc_at _ _ (by rw [unhide HTn m hlt]; have := unhide HK; omega)]
      have c2 : ∀ dd os, (Sort.grow (redrawn wr dd) os).cell? ⟨w.heap.size + 1 + 1, m, none⟩ = some (.int .u8 ((t.getD m 0).toNat : Int)) := fun dd os => by
        rw [cell_of_row _ _ _ _ _ _ (Below.at (below_regrown wr dd os) (Array.getElem?_eq_some_iff.1 q2).1 q2), bc_at _ _ (by have := unhide HTL; omega)]
      have hxor := u8_xor_nat ((tn (pParts s index d 32) t k m).getD (k * 32 + m) 0).toNat (t.getD m 0).toNat (UInt8.toNat_lt _) (UInt8.toNat_lt _)
      rw [← UInt8.toNat_xor] at hxor
      have hnext : Hid (tn (pParts s index d 32) t k (m + 1) = (tn (pParts s index d 32) t k m).set (k * 32 + m) ((tn (pParts s index d 32) t k m).getD (k * 32 + m) 0 ^^^ t.getD m 0)) := hide rfl
      obtain ⟨NB, hNB⟩ : ∃ b, (tn (pParts s index d 32) t k m).getD (k * 32 + m) 0 ^^^ t.getD m 0 = b := ⟨_, rfl⟩
      rw [hNB] at hxor hnext
      obtain ⟨N1, hN1⟩ : ∃ b, ((tn (pParts s index d 32) t k m).getD (k * 32 + m) 0).toNat = b := ⟨_, rfl⟩
      obtain ⟨N2, hN2⟩ : ∃ b, (t.getD m 0).toNat = b := ⟨_, rfl⟩
      rw [hN1] at c1 hxor
      rw [hN2] at c2 hxor
      have HLT := hide hlt
      clear hNB hN1 hN2 q2 hlt
      go_wp2_with fail
      refine wp_region_below_tail 12 mixed (by kernel_rfl) ?_
      simp only [List.take_succ_cons, List.take_zero, List.drop_succ_cons, List.drop_zero]
      quiet_step (fail)
      quiet_step (fail)
      quiet_step (fail)
      quiet_step (fail)
      quiet_step (fail)
      quiet_step (fail)
      quiet_step (fail)
      quiet_step (fail)
      quiet_step (fail)
      quiet_step (fail)
      quiet_step (fail)
      quiet_step (fail)
      refine wpQuiet_nil ?_
      intro w8 b8
      have r8 := Below.at b8 (Array.getElem?_eq_some_iff.1 (unhide hrow)).1 (unhide hrow)
      have c8 : w8.cell? ⟨g, k * 32 + m, none⟩ = some (.int .u8 (N1 : Int)) := by
        have := c1 0 #[]
        rw [b8.cell (p := ⟨g, k * 32 + m, none⟩) (Array.getElem?_eq_some_iff.1 (unhide hrow)).1]
        rw [(below_regrown wr 0 #[]).cell (p := ⟨g, k * 32 + m, none⟩) (Array.getElem?_eq_some_iff.1 (unhide hrow)).1] at this
        exact this
      have f8 := frozen_of_row w8 g (k * 32 + m) _ _ r8
      have B8 := hide ((unhide hbut).same (RBut.of_below b8))
      have r9 := hide (heap_setCell_same w8 g (k * 32 + m) _ _ (.int .u8 (NB.toNat : Int)) r8)
      have b9 := hide ((unhide B8).same (RBut.of_setCell (T := fun j => j = g) w8 g (k * 32 + m) (.int .u8 (NB.toNat : Int)) rfl))
      rw [bc_setT, ← unhide hnext] at r9
      clear r8 b8 c1 c2
      go_wp2
      go_roundw
      case rel => exact ⟨m + 1, by have := unhide HLT; omega, by go_num, r9, b9⟩
      case measure => have := unhide HLT; simp [intOf]; omega
    · have hd1 : decide ((m : Int) < 32) = false := by simp; omega
      have hm32 : m = 32 := by omega
      subst hm32
      have BW : Below w1.heap.size w7 wr := (unhide hbut).to_below w1.heap.size (fun k h => by rw [h]; have := unhide HG; omega) zz7
      have B8 := hide ((unhide B7).trans BW)
      have L8 : Hid (RLogAt wr L S6 I6) := hide ((unhide L7).kept (fun k hk => (unhide hbut).block k ((unhide L7).old k hk) (fun e => by rw [e] at hk; exact (unhide n6).1 hk)) (unhide hbut).size)
      have Q8 := hide (((unhide hbut).block G12 (Array.getElem?_eq_some_iff.1 (unhide Q12)).1 (unhide g12).1).trans (unhide Q12))
      have G8T := hrow
      have G8O := hide (((unhide hbut).block (g + 1) (Array.getElem?_eq_some_iff.1 (unhide G72)).1 (by omega)).trans (unhide G72))
      have G81 := G8T
      have G82 := G8O
      have q1 := Below.at (unhide B8) (by have := unhide Z1; omega) (unhide p1)
      have zz8 : w1.heap.size ≤ wr.heap.size := (unhide B8).size
      clear hlt hbut BW G8T G8O hrow
      go_wp2_with (refine wpList_load_row rfl 23 (.tmp 7) rfl (w.heap.size + 1) rfl 23 _ (0, 0) _ q1 Tryd.underlying23 rfl hi1 ?_)
      refine (unhide CO g (g + 1) _ (Array.getElem?_eq_some_iff.1 (unhide G81)).1 (Array.getElem?_eq_some_iff.1 (unhide G82)).1 (bytes_of_row (unhide G81)) (bytes_of_row (unhide G82)) ((unhide T1).below (unhide B8) (Nat.le_refl _))).mono ?_
      rintro e1 w9 ⟨rfl, b9⟩
      have B9 := hide ((unhide B8).trans (b9.mono zz8))
      have zz9 : w1.heap.size ≤ w9.heap.size := (unhide B9).size
      have L9 := hide ((unhide L8).below b9)
      have Q9 := hide (Below.at b9 (Array.getElem?_eq_some_iff.1 (unhide Q8)).1 (unhide Q8))
      have G91 := hide (Below.at b9 (Array.getElem?_eq_some_iff.1 (unhide G81)).1 (unhide G81))
      have G92 := hide (Below.at b9 (Array.getElem?_eq_some_iff.1 (unhide G82)).1 (unhide G82))
      clear b9 Q8 G81 G82 q1
      go_upto_region 18 with (refine wpList_store_new rfl 23 (.tmp 20) (.tmp 68) rfl w9 _ _ DV rfl rfl hiV hzV ?_; intro wa qa ba ya)
      have BA := hide ((unhide B9).trans (ba.mono zz9))
      have zza : w1.heap.size ≤ wa.heap.size := (unhide BA).size
      have LA := hide ((unhide L9).below ba)
      have QA := hide qa
      have QB := hide (Below.at ba (Array.getElem?_eq_some_iff.1 (unhide Q9)).1 (unhide Q9))
      have GA1 := hide (Below.at ba (Array.getElem?_eq_some_iff.1 (unhide G91)).1 (unhide G91))
      have GA2 := hide (Below.at ba (Array.getElem?_eq_some_iff.1 (unhide G92)).1 (unhide G92))
      have q1 := Below.at (unhide BA) (by have := unhide Z1; omega) (unhide p1)
      obtain ⟨G15, hG15⟩ : ∃ y, w9.heap.size = y := ⟨_, rfl⟩
      rw [hG15] at QA
      simp only [hG15]
      have n15 : Hid (¬ S6 G15) := hide fun h => by have := (unhide L9).old _ h; omega
      clear qa ba ya Q9 G91 G92
      go_wp2_with (refine wpList_load_row rfl 23 (.tmp 7) rfl (w.heap.size + 1) rfl 23 _ (0, 0) _ q1 Tryd.underlying23 rfl hi1 ?_)
      refine (unhide CR g (g + 1) L S6 I6 (by have := unhide LE6; simp at this; omega) _ (unhide LA) (Array.getElem?_eq_some_iff.1 (unhide GA1)).1 (Array.getElem?_eq_some_iff.1 (unhide GA2)).1 (unhide n6).1 (unhide n6).2 (bytes_of_row (unhide GA1)) (bytes_of_row (unhide GA2))).mono ?_
      rintro e1 wb ⟨rfl, Sb, Ib, hLb, bub, hsb, mob, ntb, leb⟩
      have BB := hide ((unhide BA).trans (bub.to_below w1.heap.size (unhide HS6) zza))
      have zzb : w1.heap.size ≤ wb.heap.size := (unhide BB).size
      have qv := (bub.block _ (Array.getElem?_eq_some_iff.1 (unhide QA)).1 (unhide n15)).trans (unhide QA)
      have qw := (bub.block _ (Array.getElem?_eq_some_iff.1 (unhide QB)).1 (unhide n12)).trans (unhide QB)
      have LB := hide hLb
      clear hLb bub hsb mob ntb leb q1
      go_wp2_with fail
      refine (unhide CA _ ((unhide T1).below (unhide BB) (Nat.le_refl _))).mono ?_
      rintro e1 wc ⟨rfl, bc'⟩
      have BC := hide ((unhide BB).trans (bc'.mono zzb))
      have LC := hide ((unhide LB).below bc')
      have qv2 := Below.at bc' (Array.getElem?_eq_some_iff.1 qv).1 qv
      have qw2 := Below.at bc' (Array.getElem?_eq_some_iff.1 qw).1 qw
      clear bc' qv qw
      go_wp2_with (first
        | (refine wpList_load_row_gd rfl 23 (.tmp 20) rfl G15 rfl 23 _ (0, 0) _ qv2 Tryd.underlying23 rfl hiV ?_)
        | (refine wpList_load_row_gd rfl 23 (.tmp 16) rfl G12 rfl 23 _ (0, 0) _ qw2 Tryd.underlying23 rfl hiW ?_)
        | (refine wpList_neq_gm rfl 23 23 (.tmp 80) (.tmp 81) rfl _ _ rfl rfl (by kernel_rfl) _ (unhide hEQ) ?_))
      go_ret
      exact ⟨rfl, (unhide B1).trans ((unhide BC).mono (unhide B1).size)⟩
set_option maxHeartbeats 8000000 in
set_option maxRecDepth 100000 in
theorem lamportTurns_01 (s d t : List UInt8) (hs : s.length = 32) (hd : d.length = 32) (ht : t.length = 32) (x : Int) (index : Nat) (hx : x % 4294967296 = (index : Int)) (y : Int) (w : World) (tabs : Tabs w) (hz : t ≠ List.replicate 32 0) (n k : Nat) (hn : y % 18446744073709551616 = (n : Int)) (hk : n % 32 = k) (hne : pWordOf (pOpen d (tn (pParts s index d 32) t k 32) (pOthers s index d 32) 32) = pWord s index) :
    Calls Tryd.prog 6 #[.agg (bc s), .agg (bc d), .agg (bc t), .int .i64 x, .int .i64 y, .bool false] w fun e w' => e = .returned (.bool true) ∧ Below w.heap.size w w' := by
  have hk32 : k < 32 := by omega
  have hPl := pParts_length s index d 32
  have hOl := pOthers_length s index d 32
  have hPl2 : (tn (pParts s index d 32) t k 32).length = 1024 := by rw [tn_length]; exact hPl
  have hOl2 : (pOthers s index d 32).length = 1024 := by exact hOl
  have hW := pOf_length 3 [pubs s index 64]
  have hV := pOf_length 3 [pOpen d (tn (pParts s index d 32) t k 32) (pOthers s index d 32) 32]
  change (pWord s index).length = 32 at hW
  change (pWordOf (pOpen d (tn (pParts s index d 32) t k 32) (pOthers s index d 32) 32)).length = 32 at hV
  have hEQ := hide fun W => dig_neqL _ _ hV hW W
  rw [decide_eq_true hne] at hEQ
  have HC := hide fun J (h0 : WNoted s index 64 J) (h1 : wIn (pubs s index 64) ∈ J) (hu : ∀ j, j < 32 → uIn (chunk (tn (pParts s index d 32) t k 32) j) ∈ J) (h2 : wIn (pOpen d (tn (pParts s index d 32) t k 32) (pOthers s index d 32) 32) ∈ J) => turns_parts s index d _ hPl2 J h0 h1 hu h2 hne k hk32 (tn_chunk _ t k (by rw [hPl]; omega) ht hz)
  have hiW := digInfo (pWord s index) hW
  have hzW := zeroSize (pWord s index) hW
  have hiV := digInfo (pWordOf (pOpen d (tn (pParts s index d 32) t k 32) (pOthers s index d 32) 32)) hV
  have hzV := zeroSize (pWordOf (pOpen d (tn (pParts s index d 32) t k 32) (pOthers s index d 32) 32)) hV
  have CS := hide fun W t => sign_calls s hs d hd x index hx W t
  have CW := hide fun L S I hI W hL => rwordQ_calls s hs x index hx L S I hI W hL
  have CO := hide fun g1 g2 W h1 h2 b1 b2 tt => opened_calls d hd (tn (pParts s index d 32) t k 32) (pOthers s index d 32) hPl2 hOl2 g1 0 32 g2 0 32 W h1 h2 b1 b2 tt
  have CR := hide fun g1 g2 L S I hI W hL h1 h2 n1 n2 b1 b2 => ropenedQ_calls d hd (tn (pParts s index d 32) t k 32) (pOthers s index d 32) hPl2 hOl2 g1 0 32 g2 0 32 L S I hI W hL h1 h2 n1 n2 b1 b2
  generalize pWordOf (pOpen d (tn (pParts s index d 32) t k 32) (pOthers s index d 32) 32) = DV at *
  generalize pWord s index = DW at *
  have hw1 : IntKind.u64.wrap y = (n : Int) := by rw [IntKind.wrap_u64]; exact hn
  have hw2 : (n : Int).tmod 32 = (k : Int) := by rw [Int.tmod_eq_emod_of_nonneg (by omega)]; omega
  have hw3 : IntKind.i64.wrap (k : Int) = (k : Int) := by rw [IntKind.wrap_i64]; omega
  have hk64 : (k : Int) < 32 := by omega
  have HK := hide hk32
  have HTL := hide ht
  have hi0 := digInfo s hs
  have hi1 := digInfo d hd
  have hi2 := digInfo t ht
  have hbu : Hid (Tryd.prog.built 23 [] = some (bc (List.replicate 32 0))) := hide (by kernel_rfl)
  have hTE := hide fun W => dig_eq t (List.replicate 32 0) ht (by simp) W
  rw [decide_eq_false hz] at hTE
  have CA := hide fun W t => lawake_calls W t
  have HT := hide tabs
  obtain ⟨q0, q1, q2⟩ := al3 w (.cells (bc s) 23) (.cells (bc d) 23) (.cells (bc t) 23)
  have b0 := bel3 w (.cells (bc s) 23) (.cells (bc d) 23) (.cells (bc t) 23)
  have sX : (((w.alloc (.cells (bc s) 23)).alloc (.cells (bc d) 23)).alloc (.cells (bc t) 23)).heap.size = w.heap.size + 1 + 1 + 1 := by simp
  obtain ⟨X, hX⟩ : ∃ X, ((w.alloc (.cells (bc s) 23)).alloc (.cells (bc d) 23)).alloc (.cells (bc t) 23) = X := ⟨_, rfl⟩
  rw [hX] at q0 q1 q2 b0 sX
  have HX := hide hX
  have SX := hide sX
  have TX := (unhide HT).below b0 (Nat.le_refl _)
  have B0 := hide b0
  obtain ⟨Z0, hZ0⟩ : ∃ z, bc (List.replicate 32 (0 : UInt8)) = z := ⟨_, rfl⟩
  rw [hZ0] at hbu hTE
  clear hz hne hV hW hPl hOl hPl2 hOl2 hx hn hk hX sX b0 tabs hZ0
  go_enter Tryd.func6, Tryd.ntmps6
  go_upto_region 1 with fail
  change Code.wp _ _ _ _ (((w.alloc (.cells (bc s) 23)).alloc (.cells (bc d) 23)).alloc (.cells (bc t) 23))
  rw [unhide HX]
  go_wp2_with fail
  refine (unhide CA _ TX).mono ?_
  rintro e1 w1 ⟨rfl, b1⟩
  have p0 := hide (Below.at b1 (Array.getElem?_eq_some_iff.1 q0).1 q0)
  have p1 := hide (Below.at b1 (Array.getElem?_eq_some_iff.1 q1).1 q1)
  have p2 := hide (Below.at b1 (Array.getElem?_eq_some_iff.1 q2).1 q2)
  have B1 := hide ((unhide B0).trans (b1.mono (unhide B0).size))
  have T1 := hide (TX.below b1 (Nat.le_refl _))
  have z1 : w.heap.size + 1 + 1 < w1.heap.size := (Array.getElem?_eq_some_iff.1 (unhide p2)).1
  have Z1 := hide z1
  have q2' := unhide p2
  clear q0 q1 q2 b1 TX z1
  go_wp2_with (first
    | (refine wpList_load_row rfl 23 (.tmp 8) rfl (w.heap.size + 1 + 1) rfl 23 _ (0, 0) _ q2' Tryd.underlying23 rfl hi2 ?_)
    | (refine wpList_build_to rfl 23 #[] rfl Z0 (unhide hbu) ?_)
    | (refine wpList_eql_gm rfl 23 23 (.tmp 24) (.tmp 25) rfl _ _ rfl rfl (by kernel_rfl) _ (unhide hTE) ?_))
  refine (rnewLog_calls _).mono ?_
  rintro e1 w4 ⟨rfl, hL4, b4, z4⟩
  obtain ⟨L, hLL⟩ : ∃ B, w1.heap.size + 1 = B := ⟨_, rfl⟩
  obtain ⟨S4, hS4⟩ : ∃ S : Nat → Prop, (fun k => w1.heap.size ≤ k ∧ k < w1.heap.size + 2) = S := ⟨_, rfl⟩
  have HS4 : Hid (∀ k, S4 k → w1.heap.size ≤ k) := hide fun k h => by rw [← hS4] at h; exact h.1
  rw [hLL, hS4] at hL4
  rw [hLL]
  have L4 := hide hL4
  have B4 := hide b4
  have q0 := Below.at b4 (by have := unhide Z1; omega) (unhide p0)
  have q1 := Below.at b4 (by have := unhide Z1; omega) (unhide p1)
  clear hL4 b4 z4 hLL hS4 q2'
  go_wp2_with (first
    | (refine wpList_load_row rfl 23 (.tmp 6) rfl w.heap.size rfl 23 _ (0, 0) _ q0 Tryd.underlying23 rfl hi0 ?_)
    | (refine wpList_load_row rfl 23 (.tmp 7) rfl (w.heap.size + 1) rfl 23 _ (0, 0) _ q1 Tryd.underlying23 rfl hi1 ?_))
  refine (unhide CS _ ((unhide T1).below (unhide B4) (Nat.le_refl _))).mono ?_
  rintro e1 w5 ⟨g, hg, rfl, b5, g1, g2⟩
  have zz4 : w1.heap.size ≤ w4.heap.size := (unhide B4).size
  have B5 := hide ((unhide B4).trans (b5.mono zz4))
  have L5 := hide ((unhide L4).below b5)
  have HG := hide (Nat.le_trans zz4 hg)
  have G1 := hide g1
  have G2 := hide g2
  have hgS : Hid (∀ S : Nat → Prop, (∀ k, S k → S4 k ∨ w5.heap.size ≤ k) → ¬ S g ∧ ¬ S (g + 1)) := hide fun S h => ⟨fun h1 => (h _ h1).elim (fun h2 => by have := (unhide L4).old _ h2; omega) (fun h2 => by have := (Array.getElem?_eq_some_iff.1 (unhide G1)).1; omega), fun h1 => (h _ h1).elim (fun h2 => by have := (unhide L4).old _ h2; omega) (fun h2 => by have := (Array.getElem?_eq_some_iff.1 (unhide G2)).1; omega)⟩
  have q0 := Below.at (unhide B5) (by have := unhide Z1; omega) (unhide p0)
  clear b5 g1 g2 hg q1
  go_wp2_with (refine wpList_load_row rfl 23 (.tmp 6) rfl w.heap.size rfl 23 _ (0, 0) _ q0 Tryd.underlying23 rfl hi0 ?_)
  refine (unhide CW L S4 [] (by simp) _ (unhide L5)).mono ?_
  rintro e1 w6 ⟨rfl, S6, I6, hL6, bu6, hs6, _, nt6, le6⟩
  have zz5 : w1.heap.size ≤ w5.heap.size := (unhide B5).size
  have B6 := hide ((unhide B5).trans (bu6.to_below w1.heap.size (unhide HS4) zz5))
  have HS6 : Hid (∀ k, S6 k → w1.heap.size ≤ k) := hide fun k h => (hs6 k h).elim (unhide HS4 k) (Nat.le_trans zz5)
  have zz6 : w1.heap.size ≤ w6.heap.size := (unhide B6).size
  have L6 := hide hL6
  have NT6 := hide nt6
  have LE6 := hide le6
  have n6 := hide (unhide hgS S6 hs6)
  have G61 := hide ((bu6.block g (Array.getElem?_eq_some_iff.1 (unhide G1)).1 (unhide hgS S4 (fun k h => .inl h)).1).trans (unhide G1))
  have G62 := hide ((bu6.block (g + 1) (Array.getElem?_eq_some_iff.1 (unhide G2)).1 (unhide hgS S4 (fun k h => .inl h)).2).trans (unhide G2))
  clear hL6 bu6 hs6 nt6 le6 q0
  go_upto_region 8 with (refine wpList_store_new rfl 23 (.tmp 16) (.tmp 39) rfl w6 _ _ DW rfl rfl hiW hzW ?_; intro w7 q12 b7 y7)
  have B7 := hide ((unhide B6).trans (b7.mono zz6))
  have zz7 : w1.heap.size ≤ w7.heap.size := (unhide B7).size
  have L7 := hide ((unhide L6).below b7)
  have Q12 := hide q12
  have G71 := hide (Below.at b7 (Array.getElem?_eq_some_iff.1 (unhide G61)).1 (unhide G61))
  have G72 := hide (Below.at b7 (Array.getElem?_eq_some_iff.1 (unhide G62)).1 (unhide G62))
  obtain ⟨G12, hG12⟩ : ∃ y, w6.heap.size = y := ⟨_, rfl⟩
  rw [hG12] at Q12
  simp only [hG12]
  have n12 : Hid (¬ S6 G12) := hide fun h => by have := (unhide L6).old _ h; omega
  have g12 : Hid (G12 ≠ g ∧ G12 ≠ g + 1) := hide ⟨by have := (Array.getElem?_eq_some_iff.1 (unhide G61)).1; omega, by have := (Array.getElem?_eq_some_iff.1 (unhide G62)).1; omega⟩
  have HTn : Hid (∀ m, m < 32 → (tn (pParts s index d 32) t k m).length = 1024) := hide fun m _ => by rw [tn_length]; simpa using pParts_length s index d 32
  clear q12 b7 y7
  go_wp2
  go_loopw [19, 47] (fun _ i wr => ∃ m : Nat, m ≤ 32 ∧ i = .int .i64 (m : Int) ∧ Hid (wr.heap[g]? = some (.cells (bc (tn (pParts s index d 32) t k m)) 23 (0, 0))) ∧ Hid (RBut (fun j => j = g) w7 wr)) (fun _ i _ => 32 - (intOf i).toNat)
  case atStart => exact ⟨0, by omega, rfl, G71, hide (RBut.refl _ _)⟩
  case round =>
    obtain ⟨m, hm, rfl, hrow, hbut⟩ := hrel
    by_cases hlt : m < 32
    · have hd1 : decide ((m : Int) < 32) = true := by simp; omega
      have bm : (0 : Int) ≤ m ∧ (m : Int) < 32 := by omega
      have bk : (0 : Int) ≤ k ∧ (k : Int) < 32 := by have := unhide HK; omega
      have q2 := (unhide hbut).block (w.heap.size + 1 + 1) (by have := unhide Z1; omega) (by have := unhide Z1; have := unhide HG; omega)
      have q2 := q2.trans (Below.at (unhide B7) (by have := unhide Z1; omega) (unhide p2))
      have c1 : ∀ dd os, (Sort.grow (redrawn wr dd) os).cell? ⟨g, k * 32 + m, none⟩ = some (.int .u8 (((tn (pParts s index d 32) t k m).getD (k * 32 + m) 0).toNat : Int)) := fun dd os => by
        rw [cell_of_row _ _ _ _ _ _ (Below.at (below_regrown wr dd os) (Array.getElem?_eq_some_iff.1 (unhide hrow)).1 (unhide hrow)), bc_at _ _ (by rw [unhide HTn m hlt]; have := unhide HK; omega)]
      have c2 : ∀ dd os, (Sort.grow (redrawn wr dd) os).cell? ⟨w.heap.size + 1 + 1, m, none⟩ = some (.int .u8 ((t.getD m 0).toNat : Int)) := fun dd os => by
        rw [cell_of_row _ _ _ _ _ _ (Below.at (below_regrown wr dd os) (Array.getElem?_eq_some_iff.1 q2).1 q2), bc_at _ _ (by have := unhide HTL; omega)]
      have hxor := u8_xor_nat ((tn (pParts s index d 32) t k m).getD (k * 32 + m) 0).toNat (t.getD m 0).toNat (UInt8.toNat_lt _) (UInt8.toNat_lt _)
      rw [← UInt8.toNat_xor] at hxor
      have hnext : Hid (tn (pParts s index d 32) t k (m + 1) = (tn (pParts s index d 32) t k m).set (k * 32 + m) ((tn (pParts s index d 32) t k m).getD (k * 32 + m) 0 ^^^ t.getD m 0)) := hide rfl
      obtain ⟨NB, hNB⟩ : ∃ b, (tn (pParts s index d 32) t k m).getD (k * 32 + m) 0 ^^^ t.getD m 0 = b := ⟨_, rfl⟩
      rw [hNB] at hxor hnext
      obtain ⟨N1, hN1⟩ : ∃ b, ((tn (pParts s index d 32) t k m).getD (k * 32 + m) 0).toNat = b := ⟨_, rfl⟩
      obtain ⟨N2, hN2⟩ : ∃ b, (t.getD m 0).toNat = b := ⟨_, rfl⟩
      rw [hN1] at c1 hxor
      rw [hN2] at c2 hxor
      have HLT := hide hlt
      clear hNB hN1 hN2 q2 hlt
      go_wp2_with fail
      refine wp_region_below_tail 12 mixed (by kernel_rfl) ?_
      simp only [List.take_succ_cons, List.take_zero, List.drop_succ_cons, List.drop_zero]
      quiet_step (fail)
      quiet_step (fail)
      quiet_step (fail)
      quiet_step (fail)
      quiet_step (fail)
      quiet_step (fail)
      quiet_step (fail)
      quiet_step (fail)
      quiet_step (fail)
      quiet_step (fail)
      quiet_step (fail)
      quiet_step (fail)
      refine wpQuiet_nil ?_
      intro w8 b8
      have r8 := Below.at b8 (Array.getElem?_eq_some_iff.1 (unhide hrow)).1 (unhide hrow)
      have c8 : w8.cell? ⟨g, k * 32 + m, none⟩ = some (.int .u8 (N1 : Int)) := by
        have := c1 0 #[]
        rw [b8.cell (p := ⟨g, k * 32 + m, none⟩) (Array.getElem?_eq_some_iff.1 (unhide hrow)).1]
        rw [(below_regrown wr 0 #[]).cell (p := ⟨g, k * 32 + m, none⟩) (Array.getElem?_eq_some_iff.1 (unhide hrow)).1] at this
        exact this
      have f8 := frozen_of_row w8 g (k * 32 + m) _ _ r8
      have B8 := hide ((unhide hbut).same (RBut.of_below b8))
      have r9 := hide (heap_setCell_same w8 g (k * 32 + m) _ _ (.int .u8 (NB.toNat : Int)) r8)
      have b9 := hide ((unhide B8).same (RBut.of_setCell (T := fun j => j = g) w8 g (k * 32 + m) (.int .u8 (NB.toNat : Int)) rfl))
      rw [bc_setT, ← unhide hnext] at r9
      clear r8 b8 c1 c2
      go_wp2
      go_roundw
      case rel => exact ⟨m + 1, by have := unhide HLT; omega, by go_num, r9, b9⟩
      case measure => have := unhide HLT; simp [intOf]; omega
    · have hd1 : decide ((m : Int) < 32) = false := by simp; omega
      have hm32 : m = 32 := by omega
      subst hm32
      have BW : Below w1.heap.size w7 wr := (unhide hbut).to_below w1.heap.size (fun k h => by rw [h]; have := unhide HG; omega) zz7
      have B8 := hide ((unhide B7).trans BW)
      have L8 : Hid (RLogAt wr L S6 I6) := hide ((unhide L7).kept (fun k hk => (unhide hbut).block k ((unhide L7).old k hk) (fun e => by rw [e] at hk; exact (unhide n6).1 hk)) (unhide hbut).size)
      have Q8 := hide (((unhide hbut).block G12 (Array.getElem?_eq_some_iff.1 (unhide Q12)).1 (unhide g12).1).trans (unhide Q12))
      have G8T := hrow
      have G8O := hide (((unhide hbut).block (g + 1) (Array.getElem?_eq_some_iff.1 (unhide G72)).1 (by omega)).trans (unhide G72))
      have G81 := G8T
      have G82 := G8O
      have q1 := Below.at (unhide B8) (by have := unhide Z1; omega) (unhide p1)
      have zz8 : w1.heap.size ≤ wr.heap.size := (unhide B8).size
      clear hlt hbut BW G8T G8O hrow
      go_wp2_with (refine wpList_load_row rfl 23 (.tmp 7) rfl (w.heap.size + 1) rfl 23 _ (0, 0) _ q1 Tryd.underlying23 rfl hi1 ?_)
      refine (unhide CO g (g + 1) _ (Array.getElem?_eq_some_iff.1 (unhide G81)).1 (Array.getElem?_eq_some_iff.1 (unhide G82)).1 (bytes_of_row (unhide G81)) (bytes_of_row (unhide G82)) ((unhide T1).below (unhide B8) (Nat.le_refl _))).mono ?_
      rintro e1 w9 ⟨rfl, b9⟩
      have B9 := hide ((unhide B8).trans (b9.mono zz8))
      have zz9 : w1.heap.size ≤ w9.heap.size := (unhide B9).size
      have L9 := hide ((unhide L8).below b9)
      have Q9 := hide (Below.at b9 (Array.getElem?_eq_some_iff.1 (unhide Q8)).1 (unhide Q8))
      have G91 := hide (Below.at b9 (Array.getElem?_eq_some_iff.1 (unhide G81)).1 (unhide G81))
      have G92 := hide (Below.at b9 (Array.getElem?_eq_some_iff.1 (unhide G82)).1 (unhide G82))
      clear b9 Q8 G81 G82 q1
      go_upto_region 18 with (refine wpList_store_new rfl 23 (.tmp 20) (.tmp 68) rfl w9 _ _ DV rfl rfl hiV hzV ?_; intro wa qa ba ya)
      have BA := hide ((unhide B9).trans (ba.mono zz9))
      have zza : w1.heap.size ≤ wa.heap.size := (unhide BA).size
      have LA := hide ((unhide L9).below ba)
      have QA := hide qa
      have QB := hide (Below.at ba (Array.getElem?_eq_some_iff.1 (unhide Q9)).1 (unhide Q9))
      have GA1 := hide (Below.at ba (Array.getElem?_eq_some_iff.1 (unhide G91)).1 (unhide G91))
      have GA2 := hide (Below.at ba (Array.getElem?_eq_some_iff.1 (unhide G92)).1 (unhide G92))
      have q1 := Below.at (unhide BA) (by have := unhide Z1; omega) (unhide p1)
      obtain ⟨G15, hG15⟩ : ∃ y, w9.heap.size = y := ⟨_, rfl⟩
      rw [hG15] at QA
      simp only [hG15]
      have n15 : Hid (¬ S6 G15) := hide fun h => by have := (unhide L9).old _ h; omega
      clear qa ba ya Q9 G91 G92
      go_wp2_with (refine wpList_load_row rfl 23 (.tmp 7) rfl (w.heap.size + 1) rfl 23 _ (0, 0) _ q1 Tryd.underlying23 rfl hi1 ?_)
      refine (unhide CR g (g + 1) L S6 I6 (by have := unhide LE6; simp at this; omega) _ (unhide LA) (Array.getElem?_eq_some_iff.1 (unhide GA1)).1 (Array.getElem?_eq_some_iff.1 (unhide GA2)).1 (unhide n6).1 (unhide n6).2 (bytes_of_row (unhide GA1)) (bytes_of_row (unhide GA2))).mono ?_
      rintro e1 wb ⟨rfl, Sb, Ib, hLb, bub, hsb, mob, ntb, leb⟩
      have BB := hide ((unhide BA).trans (bub.to_below w1.heap.size (unhide HS6) zza))
      have zzb : w1.heap.size ≤ wb.heap.size := (unhide BB).size
      have qv := (bub.block _ (Array.getElem?_eq_some_iff.1 (unhide QA)).1 (unhide n15)).trans (unhide QA)
      have qw := (bub.block _ (Array.getElem?_eq_some_iff.1 (unhide QB)).1 (unhide n12)).trans (unhide QB)
      have LB := hide hLb
      have hcl := hide (unhide HC Ib (fun j hj => ⟨mob _ ((unhide NT6).1 j hj).1, mob _ ((unhide NT6).1 j hj).2⟩) (mob _ (unhide NT6).2) ntb.1 ntb.2)
      clear hLb bub hsb mob ntb leb q1
      go_wp2_with fail
      refine (unhide CA _ ((unhide T1).below (unhide BB) (Nat.le_refl _))).mono ?_
      rintro e1 wc ⟨rfl, bc'⟩
      have BC := hide ((unhide BB).trans (bc'.mono zzb))
      have LC := hide ((unhide LB).below bc')
      have qv2 := Below.at bc' (Array.getElem?_eq_some_iff.1 qv).1 qv
      have qw2 := Below.at bc' (Array.getElem?_eq_some_iff.1 qw).1 qw
      clear bc' qv qw
      go_wp2_with (first
        | (refine wpList_load_row_gd rfl 23 (.tmp 20) rfl G15 rfl 23 _ (0, 0) _ qv2 Tryd.underlying23 rfl hiV ?_)
        | (refine wpList_load_row_gd rfl 23 (.tmp 16) rfl G12 rfl 23 _ (0, 0) _ qw2 Tryd.underlying23 rfl hiW ?_)
        | (refine wpList_neq_gm rfl 23 23 (.tmp 80) (.tmp 81) rfl _ _ rfl rfl (by kernel_rfl) _ (unhide hEQ) ?_))
      have cl := rclash_calls L Sb Ib wc (unhide LC)
      rw [decide_eq_true (unhide hcl)] at cl
      refine cl.mono ?_
      rintro e1 wd ⟨rfl, bd⟩
      go_wp2_with fail
      go_ret
      exact ⟨rfl, (unhide B1).trans (((unhide BC).trans (bd.mono (unhide BC).size)).mono (unhide B1).size)⟩
set_option maxHeartbeats 8000000 in
set_option maxRecDepth 100000 in
theorem lamportTurns_10 (s d t : List UInt8) (hs : s.length = 32) (hd : d.length = 32) (ht : t.length = 32) (x : Int) (index : Nat) (hx : x % 4294967296 = (index : Int)) (y : Int) (w : World) (tabs : Tabs w) (hz : t ≠ List.replicate 32 0) (n k : Nat) (hn : y % 18446744073709551616 = (n : Int)) (hk : n % 32 = k) (hne : pWordOf (pOpen d (pParts s index d 32) (tn (pOthers s index d 32) t k 32) 32) ≠ pWord s index) :
    Calls Tryd.prog 6 #[.agg (bc s), .agg (bc d), .agg (bc t), .int .i64 x, .int .i64 y, .bool true] w fun e w' => e = .returned (.bool true) ∧ Below w.heap.size w w' := by
  have hk32 : k < 32 := by omega
  have hPl := pParts_length s index d 32
  have hOl := pOthers_length s index d 32
  have hPl2 : (pParts s index d 32).length = 1024 := by exact hPl
  have hOl2 : (tn (pOthers s index d 32) t k 32).length = 1024 := by rw [tn_length]; exact hOl
  have hW := pOf_length 3 [pubs s index 64]
  have hV := pOf_length 3 [pOpen d (pParts s index d 32) (tn (pOthers s index d 32) t k 32) 32]
  change (pWord s index).length = 32 at hW
  change (pWordOf (pOpen d (pParts s index d 32) (tn (pOthers s index d 32) t k 32) 32)).length = 32 at hV
  have hEQ := hide fun W => dig_neqL _ _ hV hW W
  rw [decide_eq_false hne] at hEQ
  have hiW := digInfo (pWord s index) hW
  have hzW := zeroSize (pWord s index) hW
  have hiV := digInfo (pWordOf (pOpen d (pParts s index d 32) (tn (pOthers s index d 32) t k 32) 32)) hV
  have hzV := zeroSize (pWordOf (pOpen d (pParts s index d 32) (tn (pOthers s index d 32) t k 32) 32)) hV
  have CS := hide fun W t => sign_calls s hs d hd x index hx W t
  have CW := hide fun L S I hI W hL => rwordQ_calls s hs x index hx L S I hI W hL
  have CO := hide fun g1 g2 W h1 h2 b1 b2 tt => opened_calls d hd (pParts s index d 32) (tn (pOthers s index d 32) t k 32) hPl2 hOl2 g1 0 32 g2 0 32 W h1 h2 b1 b2 tt
  have CR := hide fun g1 g2 L S I hI W hL h1 h2 n1 n2 b1 b2 => ropenedQ_calls d hd (pParts s index d 32) (tn (pOthers s index d 32) t k 32) hPl2 hOl2 g1 0 32 g2 0 32 L S I hI W hL h1 h2 n1 n2 b1 b2
  generalize pWordOf (pOpen d (pParts s index d 32) (tn (pOthers s index d 32) t k 32) 32) = DV at *
  generalize pWord s index = DW at *
  have hw1 : IntKind.u64.wrap y = (n : Int) := by rw [IntKind.wrap_u64]; exact hn
  have hw2 : (n : Int).tmod 32 = (k : Int) := by rw [Int.tmod_eq_emod_of_nonneg (by omega)]; omega
  have hw3 : IntKind.i64.wrap (k : Int) = (k : Int) := by rw [IntKind.wrap_i64]; omega
  have hk64 : (k : Int) < 32 := by omega
  have HK := hide hk32
  have HTL := hide ht
  have hi0 := digInfo s hs
  have hi1 := digInfo d hd
  have hi2 := digInfo t ht
  have hbu : Hid (Tryd.prog.built 23 [] = some (bc (List.replicate 32 0))) := hide (by kernel_rfl)
  have hTE := hide fun W => dig_eq t (List.replicate 32 0) ht (by simp) W
  rw [decide_eq_false hz] at hTE
  have CA := hide fun W t => lawake_calls W t
  have HT := hide tabs
  obtain ⟨q0, q1, q2⟩ := al3 w (.cells (bc s) 23) (.cells (bc d) 23) (.cells (bc t) 23)
  have b0 := bel3 w (.cells (bc s) 23) (.cells (bc d) 23) (.cells (bc t) 23)
  have sX : (((w.alloc (.cells (bc s) 23)).alloc (.cells (bc d) 23)).alloc (.cells (bc t) 23)).heap.size = w.heap.size + 1 + 1 + 1 := by simp
  obtain ⟨X, hX⟩ : ∃ X, ((w.alloc (.cells (bc s) 23)).alloc (.cells (bc d) 23)).alloc (.cells (bc t) 23) = X := ⟨_, rfl⟩
  rw [hX] at q0 q1 q2 b0 sX
  have HX := hide hX
  have SX := hide sX
  have TX := (unhide HT).below b0 (Nat.le_refl _)
  have B0 := hide b0
  obtain ⟨Z0, hZ0⟩ : ∃ z, bc (List.replicate 32 (0 : UInt8)) = z := ⟨_, rfl⟩
  rw [hZ0] at hbu hTE
  clear hz hne hV hW hPl hOl hPl2 hOl2 hx hn hk hX sX b0 tabs hZ0
  go_enter Tryd.func6, Tryd.ntmps6
  go_upto_region 1 with fail
  change Code.wp _ _ _ _ (((w.alloc (.cells (bc s) 23)).alloc (.cells (bc d) 23)).alloc (.cells (bc t) 23))
  rw [unhide HX]
  go_wp2_with fail
  refine (unhide CA _ TX).mono ?_
  rintro e1 w1 ⟨rfl, b1⟩
  have p0 := hide (Below.at b1 (Array.getElem?_eq_some_iff.1 q0).1 q0)
  have p1 := hide (Below.at b1 (Array.getElem?_eq_some_iff.1 q1).1 q1)
  have p2 := hide (Below.at b1 (Array.getElem?_eq_some_iff.1 q2).1 q2)
  have B1 := hide ((unhide B0).trans (b1.mono (unhide B0).size))
  have T1 := hide (TX.below b1 (Nat.le_refl _))
  have z1 : w.heap.size + 1 + 1 < w1.heap.size := (Array.getElem?_eq_some_iff.1 (unhide p2)).1
  have Z1 := hide z1
  have q2' := unhide p2
  clear q0 q1 q2 b1 TX z1
  go_wp2_with (first
    | (refine wpList_load_row rfl 23 (.tmp 8) rfl (w.heap.size + 1 + 1) rfl 23 _ (0, 0) _ q2' Tryd.underlying23 rfl hi2 ?_)
    | (refine wpList_build_to rfl 23 #[] rfl Z0 (unhide hbu) ?_)
    | (refine wpList_eql_gm rfl 23 23 (.tmp 24) (.tmp 25) rfl _ _ rfl rfl (by kernel_rfl) _ (unhide hTE) ?_))
  refine (rnewLog_calls _).mono ?_
  rintro e1 w4 ⟨rfl, hL4, b4, z4⟩
  obtain ⟨L, hLL⟩ : ∃ B, w1.heap.size + 1 = B := ⟨_, rfl⟩
  obtain ⟨S4, hS4⟩ : ∃ S : Nat → Prop, (fun k => w1.heap.size ≤ k ∧ k < w1.heap.size + 2) = S := ⟨_, rfl⟩
  have HS4 : Hid (∀ k, S4 k → w1.heap.size ≤ k) := hide fun k h => by rw [← hS4] at h; exact h.1
  rw [hLL, hS4] at hL4
  rw [hLL]
  have L4 := hide hL4
  have B4 := hide b4
  have q0 := Below.at b4 (by have := unhide Z1; omega) (unhide p0)
  have q1 := Below.at b4 (by have := unhide Z1; omega) (unhide p1)
  clear hL4 b4 z4 hLL hS4 q2'
  go_wp2_with (first
    | (refine wpList_load_row rfl 23 (.tmp 6) rfl w.heap.size rfl 23 _ (0, 0) _ q0 Tryd.underlying23 rfl hi0 ?_)
    | (refine wpList_load_row rfl 23 (.tmp 7) rfl (w.heap.size + 1) rfl 23 _ (0, 0) _ q1 Tryd.underlying23 rfl hi1 ?_))
  refine (unhide CS _ ((unhide T1).below (unhide B4) (Nat.le_refl _))).mono ?_
  rintro e1 w5 ⟨g, hg, rfl, b5, g1, g2⟩
  have zz4 : w1.heap.size ≤ w4.heap.size := (unhide B4).size
  have B5 := hide ((unhide B4).trans (b5.mono zz4))
  have L5 := hide ((unhide L4).below b5)
  have HG := hide (Nat.le_trans zz4 hg)
  have G1 := hide g1
  have G2 := hide g2
  have hgS : Hid (∀ S : Nat → Prop, (∀ k, S k → S4 k ∨ w5.heap.size ≤ k) → ¬ S g ∧ ¬ S (g + 1)) := hide fun S h => ⟨fun h1 => (h _ h1).elim (fun h2 => by have := (unhide L4).old _ h2; omega) (fun h2 => by have := (Array.getElem?_eq_some_iff.1 (unhide G1)).1; omega), fun h1 => (h _ h1).elim (fun h2 => by have := (unhide L4).old _ h2; omega) (fun h2 => by have := (Array.getElem?_eq_some_iff.1 (unhide G2)).1; omega)⟩
  have q0 := Below.at (unhide B5) (by have := unhide Z1; omega) (unhide p0)
  clear b5 g1 g2 hg q1
  go_wp2_with (refine wpList_load_row rfl 23 (.tmp 6) rfl w.heap.size rfl 23 _ (0, 0) _ q0 Tryd.underlying23 rfl hi0 ?_)
  refine (unhide CW L S4 [] (by simp) _ (unhide L5)).mono ?_
  rintro e1 w6 ⟨rfl, S6, I6, hL6, bu6, hs6, _, nt6, le6⟩
  have zz5 : w1.heap.size ≤ w5.heap.size := (unhide B5).size
  have B6 := hide ((unhide B5).trans (bu6.to_below w1.heap.size (unhide HS4) zz5))
  have HS6 : Hid (∀ k, S6 k → w1.heap.size ≤ k) := hide fun k h => (hs6 k h).elim (unhide HS4 k) (Nat.le_trans zz5)
  have zz6 : w1.heap.size ≤ w6.heap.size := (unhide B6).size
  have L6 := hide hL6
  have NT6 := hide nt6
  have LE6 := hide le6
  have n6 := hide (unhide hgS S6 hs6)
  have G61 := hide ((bu6.block g (Array.getElem?_eq_some_iff.1 (unhide G1)).1 (unhide hgS S4 (fun k h => .inl h)).1).trans (unhide G1))
  have G62 := hide ((bu6.block (g + 1) (Array.getElem?_eq_some_iff.1 (unhide G2)).1 (unhide hgS S4 (fun k h => .inl h)).2).trans (unhide G2))
  clear hL6 bu6 hs6 nt6 le6 q0
  go_upto_region 8 with (refine wpList_store_new rfl 23 (.tmp 16) (.tmp 39) rfl w6 _ _ DW rfl rfl hiW hzW ?_; intro w7 q12 b7 y7)
  have B7 := hide ((unhide B6).trans (b7.mono zz6))
  have zz7 : w1.heap.size ≤ w7.heap.size := (unhide B7).size
  have L7 := hide ((unhide L6).below b7)
  have Q12 := hide q12
  have G71 := hide (Below.at b7 (Array.getElem?_eq_some_iff.1 (unhide G61)).1 (unhide G61))
  have G72 := hide (Below.at b7 (Array.getElem?_eq_some_iff.1 (unhide G62)).1 (unhide G62))
  obtain ⟨G12, hG12⟩ : ∃ y, w6.heap.size = y := ⟨_, rfl⟩
  rw [hG12] at Q12
  simp only [hG12]
  have n12 : Hid (¬ S6 G12) := hide fun h => by have := (unhide L6).old _ h; omega
  have g12 : Hid (G12 ≠ g ∧ G12 ≠ g + 1) := hide ⟨by have := (Array.getElem?_eq_some_iff.1 (unhide G61)).1; omega, by have := (Array.getElem?_eq_some_iff.1 (unhide G62)).1; omega⟩
  have HTn : Hid (∀ m, m < 32 → (tn (pOthers s index d 32) t k m).length = 1024) := hide fun m _ => by rw [tn_length]; simpa using pOthers_length s index d 32
  clear q12 b7 y7
  go_wp2
  go_loopw [19, 47] (fun _ i wr => ∃ m : Nat, m ≤ 32 ∧ i = .int .i64 (m : Int) ∧ Hid (wr.heap[(g + 1)]? = some (.cells (bc (tn (pOthers s index d 32) t k m)) 23 (0, 0))) ∧ Hid (RBut (fun j => j = (g + 1)) w7 wr)) (fun _ i _ => 32 - (intOf i).toNat)
  case atStart => exact ⟨0, by omega, rfl, G72, hide (RBut.refl _ _)⟩
  case round =>
    obtain ⟨m, hm, rfl, hrow, hbut⟩ := hrel
    by_cases hlt : m < 32
    · have hd1 : decide ((m : Int) < 32) = true := by simp; omega
      have bm : (0 : Int) ≤ m ∧ (m : Int) < 32 := by omega
      have bk : (0 : Int) ≤ k ∧ (k : Int) < 32 := by have := unhide HK; omega
      have q2 := (unhide hbut).block (w.heap.size + 1 + 1) (by have := unhide Z1; omega) (by have := unhide Z1; have := unhide HG; omega)
      have q2 := q2.trans (Below.at (unhide B7) (by have := unhide Z1; omega) (unhide p2))
      have c1 : ∀ dd os, (Sort.grow (redrawn wr dd) os).cell? ⟨g + 1, k * 32 + m, none⟩ = some (.int .u8 (((tn (pOthers s index d 32) t k m).getD (k * 32 + m) 0).toNat : Int)) := fun dd os => by
        rw [cell_of_row _ _ _ _ _ _ (Below.at (below_regrown wr dd os) (Array.getElem?_eq_some_iff.1 (unhide hrow)).1 (unhide hrow)), bc_at _ _ (by rw [unhide HTn m hlt]; have := unhide HK; omega)]
      have c2 : ∀ dd os, (Sort.grow (redrawn wr dd) os).cell? ⟨w.heap.size + 1 + 1, m, none⟩ = some (.int .u8 ((t.getD m 0).toNat : Int)) := fun dd os => by
        rw [cell_of_row _ _ _ _ _ _ (Below.at (below_regrown wr dd os) (Array.getElem?_eq_some_iff.1 q2).1 q2), bc_at _ _ (by have := unhide HTL; omega)]
      have hxor := u8_xor_nat ((tn (pOthers s index d 32) t k m).getD (k * 32 + m) 0).toNat (t.getD m 0).toNat (UInt8.toNat_lt _) (UInt8.toNat_lt _)
      rw [← UInt8.toNat_xor] at hxor
      have hnext : Hid (tn (pOthers s index d 32) t k (m + 1) = (tn (pOthers s index d 32) t k m).set (k * 32 + m) ((tn (pOthers s index d 32) t k m).getD (k * 32 + m) 0 ^^^ t.getD m 0)) := hide rfl
      obtain ⟨NB, hNB⟩ : ∃ b, (tn (pOthers s index d 32) t k m).getD (k * 32 + m) 0 ^^^ t.getD m 0 = b := ⟨_, rfl⟩
      rw [hNB] at hxor hnext
      obtain ⟨N1, hN1⟩ : ∃ b, ((tn (pOthers s index d 32) t k m).getD (k * 32 + m) 0).toNat = b := ⟨_, rfl⟩
      obtain ⟨N2, hN2⟩ : ∃ b, (t.getD m 0).toNat = b := ⟨_, rfl⟩
      rw [hN1] at c1 hxor
      rw [hN2] at c2 hxor
      have HLT := hide hlt
      clear hNB hN1 hN2 q2 hlt
      go_wp2_with fail
      refine wp_region_below_tail 12 mixed (by kernel_rfl) ?_
      simp only [List.take_succ_cons, List.take_zero, List.drop_succ_cons, List.drop_zero]
      quiet_step (fail)
      quiet_step (fail)
      quiet_step (fail)
      quiet_step (fail)
      quiet_step (fail)
      quiet_step (fail)
      quiet_step (fail)
      quiet_step (fail)
      quiet_step (fail)
      quiet_step (fail)
      quiet_step (fail)
      quiet_step (fail)
      refine wpQuiet_nil ?_
      intro w8 b8
      have r8 := Below.at b8 (Array.getElem?_eq_some_iff.1 (unhide hrow)).1 (unhide hrow)
      have c8 : w8.cell? ⟨g + 1, k * 32 + m, none⟩ = some (.int .u8 (N1 : Int)) := by
        have := c1 0 #[]
        rw [b8.cell (p := ⟨g + 1, k * 32 + m, none⟩) (Array.getElem?_eq_some_iff.1 (unhide hrow)).1]
        rw [(below_regrown wr 0 #[]).cell (p := ⟨g + 1, k * 32 + m, none⟩) (Array.getElem?_eq_some_iff.1 (unhide hrow)).1] at this
        exact this
      have f8 := frozen_of_row w8 (g + 1) (k * 32 + m) _ _ r8
      have B8 := hide ((unhide hbut).same (RBut.of_below b8))
      have r9 := hide (heap_setCell_same w8 (g + 1) (k * 32 + m) _ _ (.int .u8 (NB.toNat : Int)) r8)
      have b9 := hide ((unhide B8).same (RBut.of_setCell (T := fun j => j = (g + 1)) w8 (g + 1) (k * 32 + m) (.int .u8 (NB.toNat : Int)) rfl))
      rw [bc_setT, ← unhide hnext] at r9
      clear r8 b8 c1 c2
      go_wp2
      go_roundw
      case rel => exact ⟨m + 1, by have := unhide HLT; omega, by go_num, r9, b9⟩
      case measure => have := unhide HLT; simp [intOf]; omega
    · have hd1 : decide ((m : Int) < 32) = false := by simp; omega
      have hm32 : m = 32 := by omega
      subst hm32
      have BW : Below w1.heap.size w7 wr := (unhide hbut).to_below w1.heap.size (fun k h => by rw [h]; have := unhide HG; omega) zz7
      have B8 := hide ((unhide B7).trans BW)
      have L8 : Hid (RLogAt wr L S6 I6) := hide ((unhide L7).kept (fun k hk => (unhide hbut).block k ((unhide L7).old k hk) (fun e => by rw [e] at hk; exact (unhide n6).2 hk)) (unhide hbut).size)
      have Q8 := hide (((unhide hbut).block G12 (Array.getElem?_eq_some_iff.1 (unhide Q12)).1 (unhide g12).2).trans (unhide Q12))
      have G8T := hrow
      have G8O := hide (((unhide hbut).block g (Array.getElem?_eq_some_iff.1 (unhide G71)).1 (by omega)).trans (unhide G71))
      have G81 := G8O
      have G82 := G8T
      have q1 := Below.at (unhide B8) (by have := unhide Z1; omega) (unhide p1)
      have zz8 : w1.heap.size ≤ wr.heap.size := (unhide B8).size
      clear hlt hbut BW G8T G8O hrow
      go_wp2_with (refine wpList_load_row rfl 23 (.tmp 7) rfl (w.heap.size + 1) rfl 23 _ (0, 0) _ q1 Tryd.underlying23 rfl hi1 ?_)
      refine (unhide CO g (g + 1) _ (Array.getElem?_eq_some_iff.1 (unhide G81)).1 (Array.getElem?_eq_some_iff.1 (unhide G82)).1 (bytes_of_row (unhide G81)) (bytes_of_row (unhide G82)) ((unhide T1).below (unhide B8) (Nat.le_refl _))).mono ?_
      rintro e1 w9 ⟨rfl, b9⟩
      have B9 := hide ((unhide B8).trans (b9.mono zz8))
      have zz9 : w1.heap.size ≤ w9.heap.size := (unhide B9).size
      have L9 := hide ((unhide L8).below b9)
      have Q9 := hide (Below.at b9 (Array.getElem?_eq_some_iff.1 (unhide Q8)).1 (unhide Q8))
      have G91 := hide (Below.at b9 (Array.getElem?_eq_some_iff.1 (unhide G81)).1 (unhide G81))
      have G92 := hide (Below.at b9 (Array.getElem?_eq_some_iff.1 (unhide G82)).1 (unhide G82))
      clear b9 Q8 G81 G82 q1
      go_upto_region 18 with (refine wpList_store_new rfl 23 (.tmp 20) (.tmp 68) rfl w9 _ _ DV rfl rfl hiV hzV ?_; intro wa qa ba ya)
      have BA := hide ((unhide B9).trans (ba.mono zz9))
      have zza : w1.heap.size ≤ wa.heap.size := (unhide BA).size
      have LA := hide ((unhide L9).below ba)
      have QA := hide qa
      have QB := hide (Below.at ba (Array.getElem?_eq_some_iff.1 (unhide Q9)).1 (unhide Q9))
      have GA1 := hide (Below.at ba (Array.getElem?_eq_some_iff.1 (unhide G91)).1 (unhide G91))
      have GA2 := hide (Below.at ba (Array.getElem?_eq_some_iff.1 (unhide G92)).1 (unhide G92))
      have q1 := Below.at (unhide BA) (by have := unhide Z1; omega) (unhide p1)
      obtain ⟨G15, hG15⟩ : ∃ y, w9.heap.size = y := ⟨_, rfl⟩
      rw [hG15] at QA
      simp only [hG15]
      have n15 : Hid (¬ S6 G15) := hide fun h => by have := (unhide L9).old _ h; omega
      clear qa ba ya Q9 G91 G92
      go_wp2_with (refine wpList_load_row rfl 23 (.tmp 7) rfl (w.heap.size + 1) rfl 23 _ (0, 0) _ q1 Tryd.underlying23 rfl hi1 ?_)
      refine (unhide CR g (g + 1) L S6 I6 (by have := unhide LE6; simp at this; omega) _ (unhide LA) (Array.getElem?_eq_some_iff.1 (unhide GA1)).1 (Array.getElem?_eq_some_iff.1 (unhide GA2)).1 (unhide n6).1 (unhide n6).2 (bytes_of_row (unhide GA1)) (bytes_of_row (unhide GA2))).mono ?_
      rintro e1 wb ⟨rfl, Sb, Ib, hLb, bub, hsb, mob, ntb, leb⟩
      have BB := hide ((unhide BA).trans (bub.to_below w1.heap.size (unhide HS6) zza))
      have zzb : w1.heap.size ≤ wb.heap.size := (unhide BB).size
      have qv := (bub.block _ (Array.getElem?_eq_some_iff.1 (unhide QA)).1 (unhide n15)).trans (unhide QA)
      have qw := (bub.block _ (Array.getElem?_eq_some_iff.1 (unhide QB)).1 (unhide n12)).trans (unhide QB)
      have LB := hide hLb
      clear hLb bub hsb mob ntb leb q1
      go_wp2_with fail
      refine (unhide CA _ ((unhide T1).below (unhide BB) (Nat.le_refl _))).mono ?_
      rintro e1 wc ⟨rfl, bc'⟩
      have BC := hide ((unhide BB).trans (bc'.mono zzb))
      have LC := hide ((unhide LB).below bc')
      have qv2 := Below.at bc' (Array.getElem?_eq_some_iff.1 qv).1 qv
      have qw2 := Below.at bc' (Array.getElem?_eq_some_iff.1 qw).1 qw
      clear bc' qv qw
      go_wp2_with (first
        | (refine wpList_load_row_gd rfl 23 (.tmp 20) rfl G15 rfl 23 _ (0, 0) _ qv2 Tryd.underlying23 rfl hiV ?_)
        | (refine wpList_load_row_gd rfl 23 (.tmp 16) rfl G12 rfl 23 _ (0, 0) _ qw2 Tryd.underlying23 rfl hiW ?_)
        | (refine wpList_neq_gm rfl 23 23 (.tmp 80) (.tmp 81) rfl _ _ rfl rfl (by kernel_rfl) _ (unhide hEQ) ?_))
      go_ret
      exact ⟨rfl, (unhide B1).trans ((unhide BC).mono (unhide B1).size)⟩
set_option maxHeartbeats 8000000 in
set_option maxRecDepth 100000 in
theorem lamportTurns_11 (s d t : List UInt8) (hs : s.length = 32) (hd : d.length = 32) (ht : t.length = 32) (x : Int) (index : Nat) (hx : x % 4294967296 = (index : Int)) (y : Int) (w : World) (tabs : Tabs w) (hz : t ≠ List.replicate 32 0) (n k : Nat) (hn : y % 18446744073709551616 = (n : Int)) (hk : n % 32 = k) (hne : pWordOf (pOpen d (pParts s index d 32) (tn (pOthers s index d 32) t k 32) 32) = pWord s index) :
    Calls Tryd.prog 6 #[.agg (bc s), .agg (bc d), .agg (bc t), .int .i64 x, .int .i64 y, .bool true] w fun e w' => e = .returned (.bool true) ∧ Below w.heap.size w w' := by
  have hk32 : k < 32 := by omega
  have hPl := pParts_length s index d 32
  have hOl := pOthers_length s index d 32
  have hPl2 : (pParts s index d 32).length = 1024 := by exact hPl
  have hOl2 : (tn (pOthers s index d 32) t k 32).length = 1024 := by rw [tn_length]; exact hOl
  have hW := pOf_length 3 [pubs s index 64]
  have hV := pOf_length 3 [pOpen d (pParts s index d 32) (tn (pOthers s index d 32) t k 32) 32]
  change (pWord s index).length = 32 at hW
  change (pWordOf (pOpen d (pParts s index d 32) (tn (pOthers s index d 32) t k 32) 32)).length = 32 at hV
  have hEQ := hide fun W => dig_neqL _ _ hV hW W
  rw [decide_eq_true hne] at hEQ
  have HC := hide fun J (h0 : WNoted s index 64 J) (h1 : wIn (pubs s index 64) ∈ J) (hu : ∀ j, j < 32 → uIn (chunk (pParts s index d 32) j) ∈ J) (h2 : wIn (pOpen d (pParts s index d 32) (tn (pOthers s index d 32) t k 32) 32) ∈ J) => turns_others s index d _ hOl2 J h1 h2 hne k hk32 (tn_chunk _ t k (by rw [hOl]; omega) ht hz)
  have hiW := digInfo (pWord s index) hW
  have hzW := zeroSize (pWord s index) hW
  have hiV := digInfo (pWordOf (pOpen d (pParts s index d 32) (tn (pOthers s index d 32) t k 32) 32)) hV
  have hzV := zeroSize (pWordOf (pOpen d (pParts s index d 32) (tn (pOthers s index d 32) t k 32) 32)) hV
  have CS := hide fun W t => sign_calls s hs d hd x index hx W t
  have CW := hide fun L S I hI W hL => rwordQ_calls s hs x index hx L S I hI W hL
  have CO := hide fun g1 g2 W h1 h2 b1 b2 tt => opened_calls d hd (pParts s index d 32) (tn (pOthers s index d 32) t k 32) hPl2 hOl2 g1 0 32 g2 0 32 W h1 h2 b1 b2 tt
  have CR := hide fun g1 g2 L S I hI W hL h1 h2 n1 n2 b1 b2 => ropenedQ_calls d hd (pParts s index d 32) (tn (pOthers s index d 32) t k 32) hPl2 hOl2 g1 0 32 g2 0 32 L S I hI W hL h1 h2 n1 n2 b1 b2
  generalize pWordOf (pOpen d (pParts s index d 32) (tn (pOthers s index d 32) t k 32) 32) = DV at *
  generalize pWord s index = DW at *
  have hw1 : IntKind.u64.wrap y = (n : Int) := by rw [IntKind.wrap_u64]; exact hn
  have hw2 : (n : Int).tmod 32 = (k : Int) := by rw [Int.tmod_eq_emod_of_nonneg (by omega)]; omega
  have hw3 : IntKind.i64.wrap (k : Int) = (k : Int) := by rw [IntKind.wrap_i64]; omega
  have hk64 : (k : Int) < 32 := by omega
  have HK := hide hk32
  have HTL := hide ht
  have hi0 := digInfo s hs
  have hi1 := digInfo d hd
  have hi2 := digInfo t ht
  have hbu : Hid (Tryd.prog.built 23 [] = some (bc (List.replicate 32 0))) := hide (by kernel_rfl)
  have hTE := hide fun W => dig_eq t (List.replicate 32 0) ht (by simp) W
  rw [decide_eq_false hz] at hTE
  have CA := hide fun W t => lawake_calls W t
  have HT := hide tabs
  obtain ⟨q0, q1, q2⟩ := al3 w (.cells (bc s) 23) (.cells (bc d) 23) (.cells (bc t) 23)
  have b0 := bel3 w (.cells (bc s) 23) (.cells (bc d) 23) (.cells (bc t) 23)
  have sX : (((w.alloc (.cells (bc s) 23)).alloc (.cells (bc d) 23)).alloc (.cells (bc t) 23)).heap.size = w.heap.size + 1 + 1 + 1 := by simp
  obtain ⟨X, hX⟩ : ∃ X, ((w.alloc (.cells (bc s) 23)).alloc (.cells (bc d) 23)).alloc (.cells (bc t) 23) = X := ⟨_, rfl⟩
  rw [hX] at q0 q1 q2 b0 sX
  have HX := hide hX
  have SX := hide sX
  have TX := (unhide HT).below b0 (Nat.le_refl _)
  have B0 := hide b0
  obtain ⟨Z0, hZ0⟩ : ∃ z, bc (List.replicate 32 (0 : UInt8)) = z := ⟨_, rfl⟩
  rw [hZ0] at hbu hTE
  clear hz hne hV hW hPl hOl hPl2 hOl2 hx hn hk hX sX b0 tabs hZ0
  go_enter Tryd.func6, Tryd.ntmps6
  go_upto_region 1 with fail
  change Code.wp _ _ _ _ (((w.alloc (.cells (bc s) 23)).alloc (.cells (bc d) 23)).alloc (.cells (bc t) 23))
  rw [unhide HX]
  go_wp2_with fail
  refine (unhide CA _ TX).mono ?_
  rintro e1 w1 ⟨rfl, b1⟩
  have p0 := hide (Below.at b1 (Array.getElem?_eq_some_iff.1 q0).1 q0)
  have p1 := hide (Below.at b1 (Array.getElem?_eq_some_iff.1 q1).1 q1)
  have p2 := hide (Below.at b1 (Array.getElem?_eq_some_iff.1 q2).1 q2)
  have B1 := hide ((unhide B0).trans (b1.mono (unhide B0).size))
  have T1 := hide (TX.below b1 (Nat.le_refl _))
  have z1 : w.heap.size + 1 + 1 < w1.heap.size := (Array.getElem?_eq_some_iff.1 (unhide p2)).1
  have Z1 := hide z1
  have q2' := unhide p2
  clear q0 q1 q2 b1 TX z1
  go_wp2_with (first
    | (refine wpList_load_row rfl 23 (.tmp 8) rfl (w.heap.size + 1 + 1) rfl 23 _ (0, 0) _ q2' Tryd.underlying23 rfl hi2 ?_)
    | (refine wpList_build_to rfl 23 #[] rfl Z0 (unhide hbu) ?_)
    | (refine wpList_eql_gm rfl 23 23 (.tmp 24) (.tmp 25) rfl _ _ rfl rfl (by kernel_rfl) _ (unhide hTE) ?_))
  refine (rnewLog_calls _).mono ?_
  rintro e1 w4 ⟨rfl, hL4, b4, z4⟩
  obtain ⟨L, hLL⟩ : ∃ B, w1.heap.size + 1 = B := ⟨_, rfl⟩
  obtain ⟨S4, hS4⟩ : ∃ S : Nat → Prop, (fun k => w1.heap.size ≤ k ∧ k < w1.heap.size + 2) = S := ⟨_, rfl⟩
  have HS4 : Hid (∀ k, S4 k → w1.heap.size ≤ k) := hide fun k h => by rw [← hS4] at h; exact h.1
  rw [hLL, hS4] at hL4
  rw [hLL]
  have L4 := hide hL4
  have B4 := hide b4
  have q0 := Below.at b4 (by have := unhide Z1; omega) (unhide p0)
  have q1 := Below.at b4 (by have := unhide Z1; omega) (unhide p1)
  clear hL4 b4 z4 hLL hS4 q2'
  go_wp2_with (first
    | (refine wpList_load_row rfl 23 (.tmp 6) rfl w.heap.size rfl 23 _ (0, 0) _ q0 Tryd.underlying23 rfl hi0 ?_)
    | (refine wpList_load_row rfl 23 (.tmp 7) rfl (w.heap.size + 1) rfl 23 _ (0, 0) _ q1 Tryd.underlying23 rfl hi1 ?_))
  refine (unhide CS _ ((unhide T1).below (unhide B4) (Nat.le_refl _))).mono ?_
  rintro e1 w5 ⟨g, hg, rfl, b5, g1, g2⟩
  have zz4 : w1.heap.size ≤ w4.heap.size := (unhide B4).size
  have B5 := hide ((unhide B4).trans (b5.mono zz4))
  have L5 := hide ((unhide L4).below b5)
  have HG := hide (Nat.le_trans zz4 hg)
  have G1 := hide g1
  have G2 := hide g2
  have hgS : Hid (∀ S : Nat → Prop, (∀ k, S k → S4 k ∨ w5.heap.size ≤ k) → ¬ S g ∧ ¬ S (g + 1)) := hide fun S h => ⟨fun h1 => (h _ h1).elim (fun h2 => by have := (unhide L4).old _ h2; omega) (fun h2 => by have := (Array.getElem?_eq_some_iff.1 (unhide G1)).1; omega), fun h1 => (h _ h1).elim (fun h2 => by have := (unhide L4).old _ h2; omega) (fun h2 => by have := (Array.getElem?_eq_some_iff.1 (unhide G2)).1; omega)⟩
  have q0 := Below.at (unhide B5) (by have := unhide Z1; omega) (unhide p0)
  clear b5 g1 g2 hg q1
  go_wp2_with (refine wpList_load_row rfl 23 (.tmp 6) rfl w.heap.size rfl 23 _ (0, 0) _ q0 Tryd.underlying23 rfl hi0 ?_)
  refine (unhide CW L S4 [] (by simp) _ (unhide L5)).mono ?_
  rintro e1 w6 ⟨rfl, S6, I6, hL6, bu6, hs6, _, nt6, le6⟩
  have zz5 : w1.heap.size ≤ w5.heap.size := (unhide B5).size
  have B6 := hide ((unhide B5).trans (bu6.to_below w1.heap.size (unhide HS4) zz5))
  have HS6 : Hid (∀ k, S6 k → w1.heap.size ≤ k) := hide fun k h => (hs6 k h).elim (unhide HS4 k) (Nat.le_trans zz5)
  have zz6 : w1.heap.size ≤ w6.heap.size := (unhide B6).size
  have L6 := hide hL6
  have NT6 := hide nt6
  have LE6 := hide le6
  have n6 := hide (unhide hgS S6 hs6)
  have G61 := hide ((bu6.block g (Array.getElem?_eq_some_iff.1 (unhide G1)).1 (unhide hgS S4 (fun k h => .inl h)).1).trans (unhide G1))
  have G62 := hide ((bu6.block (g + 1) (Array.getElem?_eq_some_iff.1 (unhide G2)).1 (unhide hgS S4 (fun k h => .inl h)).2).trans (unhide G2))
  clear hL6 bu6 hs6 nt6 le6 q0
  go_upto_region 8 with (refine wpList_store_new rfl 23 (.tmp 16) (.tmp 39) rfl w6 _ _ DW rfl rfl hiW hzW ?_; intro w7 q12 b7 y7)
  have B7 := hide ((unhide B6).trans (b7.mono zz6))
  have zz7 : w1.heap.size ≤ w7.heap.size := (unhide B7).size
  have L7 := hide ((unhide L6).below b7)
  have Q12 := hide q12
  have G71 := hide (Below.at b7 (Array.getElem?_eq_some_iff.1 (unhide G61)).1 (unhide G61))
  have G72 := hide (Below.at b7 (Array.getElem?_eq_some_iff.1 (unhide G62)).1 (unhide G62))
  obtain ⟨G12, hG12⟩ : ∃ y, w6.heap.size = y := ⟨_, rfl⟩
  rw [hG12] at Q12
  simp only [hG12]
  have n12 : Hid (¬ S6 G12) := hide fun h => by have := (unhide L6).old _ h; omega
  have g12 : Hid (G12 ≠ g ∧ G12 ≠ g + 1) := hide ⟨by have := (Array.getElem?_eq_some_iff.1 (unhide G61)).1; omega, by have := (Array.getElem?_eq_some_iff.1 (unhide G62)).1; omega⟩
  have HTn : Hid (∀ m, m < 32 → (tn (pOthers s index d 32) t k m).length = 1024) := hide fun m _ => by rw [tn_length]; simpa using pOthers_length s index d 32
  clear q12 b7 y7
  go_wp2
  go_loopw [19, 47] (fun _ i wr => ∃ m : Nat, m ≤ 32 ∧ i = .int .i64 (m : Int) ∧ Hid (wr.heap[(g + 1)]? = some (.cells (bc (tn (pOthers s index d 32) t k m)) 23 (0, 0))) ∧ Hid (RBut (fun j => j = (g + 1)) w7 wr)) (fun _ i _ => 32 - (intOf i).toNat)
  case atStart => exact ⟨0, by omega, rfl, G72, hide (RBut.refl _ _)⟩
  case round =>
    obtain ⟨m, hm, rfl, hrow, hbut⟩ := hrel
    by_cases hlt : m < 32
    · have hd1 : decide ((m : Int) < 32) = true := by simp; omega
      have bm : (0 : Int) ≤ m ∧ (m : Int) < 32 := by omega
      have bk : (0 : Int) ≤ k ∧ (k : Int) < 32 := by have := unhide HK; omega
      have q2 := (unhide hbut).block (w.heap.size + 1 + 1) (by have := unhide Z1; omega) (by have := unhide Z1; have := unhide HG; omega)
      have q2 := q2.trans (Below.at (unhide B7) (by have := unhide Z1; omega) (unhide p2))
      have c1 : ∀ dd os, (Sort.grow (redrawn wr dd) os).cell? ⟨g + 1, k * 32 + m, none⟩ = some (.int .u8 (((tn (pOthers s index d 32) t k m).getD (k * 32 + m) 0).toNat : Int)) := fun dd os => by
        rw [cell_of_row _ _ _ _ _ _ (Below.at (below_regrown wr dd os) (Array.getElem?_eq_some_iff.1 (unhide hrow)).1 (unhide hrow)), bc_at _ _ (by rw [unhide HTn m hlt]; have := unhide HK; omega)]
      have c2 : ∀ dd os, (Sort.grow (redrawn wr dd) os).cell? ⟨w.heap.size + 1 + 1, m, none⟩ = some (.int .u8 ((t.getD m 0).toNat : Int)) := fun dd os => by
        rw [cell_of_row _ _ _ _ _ _ (Below.at (below_regrown wr dd os) (Array.getElem?_eq_some_iff.1 q2).1 q2), bc_at _ _ (by have := unhide HTL; omega)]
      have hxor := u8_xor_nat ((tn (pOthers s index d 32) t k m).getD (k * 32 + m) 0).toNat (t.getD m 0).toNat (UInt8.toNat_lt _) (UInt8.toNat_lt _)
      rw [← UInt8.toNat_xor] at hxor
      have hnext : Hid (tn (pOthers s index d 32) t k (m + 1) = (tn (pOthers s index d 32) t k m).set (k * 32 + m) ((tn (pOthers s index d 32) t k m).getD (k * 32 + m) 0 ^^^ t.getD m 0)) := hide rfl
      obtain ⟨NB, hNB⟩ : ∃ b, (tn (pOthers s index d 32) t k m).getD (k * 32 + m) 0 ^^^ t.getD m 0 = b := ⟨_, rfl⟩
      rw [hNB] at hxor hnext
      obtain ⟨N1, hN1⟩ : ∃ b, ((tn (pOthers s index d 32) t k m).getD (k * 32 + m) 0).toNat = b := ⟨_, rfl⟩
      obtain ⟨N2, hN2⟩ : ∃ b, (t.getD m 0).toNat = b := ⟨_, rfl⟩
      rw [hN1] at c1 hxor
      rw [hN2] at c2 hxor
      have HLT := hide hlt
      clear hNB hN1 hN2 q2 hlt
      go_wp2_with fail
      refine wp_region_below_tail 12 mixed (by kernel_rfl) ?_
      simp only [List.take_succ_cons, List.take_zero, List.drop_succ_cons, List.drop_zero]
      quiet_step (fail)
      quiet_step (fail)
      quiet_step (fail)
      quiet_step (fail)
      quiet_step (fail)
      quiet_step (fail)
      quiet_step (fail)
      quiet_step (fail)
      quiet_step (fail)
      quiet_step (fail)
      quiet_step (fail)
      quiet_step (fail)
      refine wpQuiet_nil ?_
      intro w8 b8
      have r8 := Below.at b8 (Array.getElem?_eq_some_iff.1 (unhide hrow)).1 (unhide hrow)
      have c8 : w8.cell? ⟨g + 1, k * 32 + m, none⟩ = some (.int .u8 (N1 : Int)) := by
        have := c1 0 #[]
        rw [b8.cell (p := ⟨g + 1, k * 32 + m, none⟩) (Array.getElem?_eq_some_iff.1 (unhide hrow)).1]
        rw [(below_regrown wr 0 #[]).cell (p := ⟨g + 1, k * 32 + m, none⟩) (Array.getElem?_eq_some_iff.1 (unhide hrow)).1] at this
        exact this
      have f8 := frozen_of_row w8 (g + 1) (k * 32 + m) _ _ r8
      have B8 := hide ((unhide hbut).same (RBut.of_below b8))
      have r9 := hide (heap_setCell_same w8 (g + 1) (k * 32 + m) _ _ (.int .u8 (NB.toNat : Int)) r8)
      have b9 := hide ((unhide B8).same (RBut.of_setCell (T := fun j => j = (g + 1)) w8 (g + 1) (k * 32 + m) (.int .u8 (NB.toNat : Int)) rfl))
      rw [bc_setT, ← unhide hnext] at r9
      clear r8 b8 c1 c2
      go_wp2
      go_roundw
      case rel => exact ⟨m + 1, by have := unhide HLT; omega, by go_num, r9, b9⟩
      case measure => have := unhide HLT; simp [intOf]; omega
    · have hd1 : decide ((m : Int) < 32) = false := by simp; omega
      have hm32 : m = 32 := by omega
      subst hm32
      have BW : Below w1.heap.size w7 wr := (unhide hbut).to_below w1.heap.size (fun k h => by rw [h]; have := unhide HG; omega) zz7
      have B8 := hide ((unhide B7).trans BW)
      have L8 : Hid (RLogAt wr L S6 I6) := hide ((unhide L7).kept (fun k hk => (unhide hbut).block k ((unhide L7).old k hk) (fun e => by rw [e] at hk; exact (unhide n6).2 hk)) (unhide hbut).size)
      have Q8 := hide (((unhide hbut).block G12 (Array.getElem?_eq_some_iff.1 (unhide Q12)).1 (unhide g12).2).trans (unhide Q12))
      have G8T := hrow
      have G8O := hide (((unhide hbut).block g (Array.getElem?_eq_some_iff.1 (unhide G71)).1 (by omega)).trans (unhide G71))
      have G81 := G8O
      have G82 := G8T
      have q1 := Below.at (unhide B8) (by have := unhide Z1; omega) (unhide p1)
      have zz8 : w1.heap.size ≤ wr.heap.size := (unhide B8).size
      clear hlt hbut BW G8T G8O hrow
      go_wp2_with (refine wpList_load_row rfl 23 (.tmp 7) rfl (w.heap.size + 1) rfl 23 _ (0, 0) _ q1 Tryd.underlying23 rfl hi1 ?_)
      refine (unhide CO g (g + 1) _ (Array.getElem?_eq_some_iff.1 (unhide G81)).1 (Array.getElem?_eq_some_iff.1 (unhide G82)).1 (bytes_of_row (unhide G81)) (bytes_of_row (unhide G82)) ((unhide T1).below (unhide B8) (Nat.le_refl _))).mono ?_
      rintro e1 w9 ⟨rfl, b9⟩
      have B9 := hide ((unhide B8).trans (b9.mono zz8))
      have zz9 : w1.heap.size ≤ w9.heap.size := (unhide B9).size
      have L9 := hide ((unhide L8).below b9)
      have Q9 := hide (Below.at b9 (Array.getElem?_eq_some_iff.1 (unhide Q8)).1 (unhide Q8))
      have G91 := hide (Below.at b9 (Array.getElem?_eq_some_iff.1 (unhide G81)).1 (unhide G81))
      have G92 := hide (Below.at b9 (Array.getElem?_eq_some_iff.1 (unhide G82)).1 (unhide G82))
      clear b9 Q8 G81 G82 q1
      go_upto_region 18 with (refine wpList_store_new rfl 23 (.tmp 20) (.tmp 68) rfl w9 _ _ DV rfl rfl hiV hzV ?_; intro wa qa ba ya)
      have BA := hide ((unhide B9).trans (ba.mono zz9))
      have zza : w1.heap.size ≤ wa.heap.size := (unhide BA).size
      have LA := hide ((unhide L9).below ba)
      have QA := hide qa
      have QB := hide (Below.at ba (Array.getElem?_eq_some_iff.1 (unhide Q9)).1 (unhide Q9))
      have GA1 := hide (Below.at ba (Array.getElem?_eq_some_iff.1 (unhide G91)).1 (unhide G91))
      have GA2 := hide (Below.at ba (Array.getElem?_eq_some_iff.1 (unhide G92)).1 (unhide G92))
      have q1 := Below.at (unhide BA) (by have := unhide Z1; omega) (unhide p1)
      obtain ⟨G15, hG15⟩ : ∃ y, w9.heap.size = y := ⟨_, rfl⟩
      rw [hG15] at QA
      simp only [hG15]
      have n15 : Hid (¬ S6 G15) := hide fun h => by have := (unhide L9).old _ h; omega
      clear qa ba ya Q9 G91 G92
      go_wp2_with (refine wpList_load_row rfl 23 (.tmp 7) rfl (w.heap.size + 1) rfl 23 _ (0, 0) _ q1 Tryd.underlying23 rfl hi1 ?_)
      refine (unhide CR g (g + 1) L S6 I6 (by have := unhide LE6; simp at this; omega) _ (unhide LA) (Array.getElem?_eq_some_iff.1 (unhide GA1)).1 (Array.getElem?_eq_some_iff.1 (unhide GA2)).1 (unhide n6).1 (unhide n6).2 (bytes_of_row (unhide GA1)) (bytes_of_row (unhide GA2))).mono ?_
      rintro e1 wb ⟨rfl, Sb, Ib, hLb, bub, hsb, mob, ntb, leb⟩
      have BB := hide ((unhide BA).trans (bub.to_below w1.heap.size (unhide HS6) zza))
      have zzb : w1.heap.size ≤ wb.heap.size := (unhide BB).size
      have qv := (bub.block _ (Array.getElem?_eq_some_iff.1 (unhide QA)).1 (unhide n15)).trans (unhide QA)
      have qw := (bub.block _ (Array.getElem?_eq_some_iff.1 (unhide QB)).1 (unhide n12)).trans (unhide QB)
      have LB := hide hLb
      have hcl := hide (unhide HC Ib (fun j hj => ⟨mob _ ((unhide NT6).1 j hj).1, mob _ ((unhide NT6).1 j hj).2⟩) (mob _ (unhide NT6).2) ntb.1 ntb.2)
      clear hLb bub hsb mob ntb leb q1
      go_wp2_with fail
      refine (unhide CA _ ((unhide T1).below (unhide BB) (Nat.le_refl _))).mono ?_
      rintro e1 wc ⟨rfl, bc'⟩
      have BC := hide ((unhide BB).trans (bc'.mono zzb))
      have LC := hide ((unhide LB).below bc')
      have qv2 := Below.at bc' (Array.getElem?_eq_some_iff.1 qv).1 qv
      have qw2 := Below.at bc' (Array.getElem?_eq_some_iff.1 qw).1 qw
      clear bc' qv qw
      go_wp2_with (first
        | (refine wpList_load_row_gd rfl 23 (.tmp 20) rfl G15 rfl 23 _ (0, 0) _ qv2 Tryd.underlying23 rfl hiV ?_)
        | (refine wpList_load_row_gd rfl 23 (.tmp 16) rfl G12 rfl 23 _ (0, 0) _ qw2 Tryd.underlying23 rfl hiW ?_)
        | (refine wpList_neq_gm rfl 23 23 (.tmp 80) (.tmp 81) rfl _ _ rfl rfl (by kernel_rfl) _ (unhide hEQ) ?_))
      have cl := rclash_calls L Sb Ib wc (unhide LC)
      rw [decide_eq_true (unhide hcl)] at cl
      refine cl.mono ?_
      rintro e1 wd ⟨rfl, bd⟩
      go_wp2_with fail
      go_ret
      exact ⟨rfl, (unhide B1).trans (((unhide BC).trans (bd.mono (unhide BC).size)).mono (unhide B1).size)⟩
end Go.Proofs.YtdlgkmaknoaodaaDoor.turns
namespace Go.Proofs.YtdlgkmaknoaodaaDoor
open Go Go.RowKit Go.Proofs.YtdlgkmaknoaodaaDoor.turns
theorem lamportTurns_walk (s d t : List UInt8) (hs : s.length = 32) (hd : d.length = 32) (ht : t.length = 32) (x y : Int) (o : Bool) (w : World) (tabs : Tabs w) :
    Calls Tryd.prog 6 #[.agg (bc s), .agg (bc d), .agg (bc t), .int .i64 x, .int .i64 y, .bool o] w fun e w' => e = .returned (.bool true) ∧ Below w.heap.size w w' := by
  obtain ⟨index, hx⟩ : ∃ index : Nat, x % 4294967296 = (index : Int) := ⟨(x % 4294967296).toNat, by omega⟩
  obtain ⟨n, hn⟩ : ∃ n : Nat, y % 18446744073709551616 = (n : Int) := ⟨(y % 18446744073709551616).toNat, by omega⟩
  by_cases hz : t = List.replicate 32 0
  · exact lamportTurns_zero s d t hs hd ht x index hx y w tabs o hz
  · cases o with
    | false =>
      by_cases h : pWordOf (pOpen d (tn (pParts s index d 32) t (n % 32) 32) (pOthers s index d 32) 32) = pWord s index
      · exact lamportTurns_01 s d t hs hd ht x index hx y w tabs hz n _ hn rfl h
      · exact lamportTurns_00 s d t hs hd ht x index hx y w tabs hz n _ hn rfl h
    | true =>
      by_cases h : pWordOf (pOpen d (pParts s index d 32) (tn (pOthers s index d 32) t (n % 32) 32) 32) = pWord s index
      · exact lamportTurns_11 s d t hs hd ht x index hx y w tabs hz n _ hn rfl h
      · exact lamportTurns_10 s d t hs hd ht x index hx y w tabs hz n _ hn rfl h
end Go.Proofs.YtdlgkmaknoaodaaDoor
