/-
  WHAT THE STATEMENTS' SameList, SameSig AND same RETURN OF LIKE ONES, over lists of digests anywhere: true.
-/
/-
  A BOOK OF WHO HAS SIGNED WHAT: entries of sixty-four bytes in memory; their ==.
-/
/-
  slices.Index, slices.Contains AT AN ENTRY OF A BOOK; keys.Has; the document's Has.
-/
/-
  A WHOLE ROW LOADED WHERE A GUARD LETS IT. Over whatever program.
-/
/-
  keys.Has, and the document's Has.
-/
/-
  A SLICE OF ROWS THAT THE CALL OWNS: a slice literal of one row; a row appended. Over whatever program.
-/
/-
  keys.Note, and the document's Note.
-/
/-
  THE DOCUMENT's Note.
-/
/-
  KeysBooks: what is noted in any book, and who is found in it, is the document's.
-/
/-
  WHAT THE ROWS OF LAYER 1 LIST GIVES THE WALKS: the two tables of package sha, read as the program's text lays them.
-/
import Derived.Test.YtjoefhdclghgaaaDoorJ3
import Derived.Test.YtjoefhdclghgaaaDoorJ2
import Derived.Test.YtjoefhdclghgaaaDoorJ0
import Derived.Test.YtjoefhdclghgaaaDoorJ4
import Derived.Deep.MidRow
import Derived.Great.BuildSlice
import Derived.Laws.AppendOwn
import Derived.Laws.OwnMore
import Derived.Test.YtjoefhdclghgaaaDoorCards
import Derived.Test.YtjoefhdclghgaaaDoorTie
import Derived.ProofKit
import Derived.OpenShut
import Derived.Deep.DeepHandedRow
import Derived.Lib.LaidTab
namespace Go.Proofs.YtjoefhdclghgaaaDoor
open Go Go.RowKit
set_option linter.unusedSimpArgs false
set_option linter.unusedVariables false

theorem wpList_load_mid_gk {P : Program} {ops : Array Oper} {rest : List Oper} {o : Oper} {a : Act} {w : World} {Q : Exit → Act → World → Prop} (hw : Region.wanted o (yielded ops a.tmps) = true) (ty : TypeId) (x : Operand) (ho : o.op = .load ty x)
    (b off : Nat) (hx : a.eval x = .pointer (some ⟨b, off, none⟩)) (cs : List Value) (d : TypeDesc) (hc : w.rangeAt b off cs)
    (hu : P.underlying ty = some d) (hd : d.isRow = true) (hi : (P.info? ty).map (·.size) = some cs.length)
    (h : wpList P ops Q rest (a.put o.dst (.agg cs.toArray)) w) : wpList P ops Q (o :: rest) a w :=
  wpList_step fun K hK => by
    rw [if_pos hw]
    exact wp_load_mid ty x ho b off hx cs d hc hu hd hi (hK _ _ h)
theorem wpList_eql_gk {P : Program} {ops : Array Oper} {rest : List Oper} {o : Oper} {a : Act} {w : World} {Q : Exit → Act → World → Prop} (hw : Region.wanted o (yielded ops a.tmps) = true) (t t' : TypeId) (x y : Operand) (ho : o.op = .binOp .eql t x y t')
    (u v : Array Value) (hx : a.eval x = .agg u) (hy : a.eval y = .agg v) (hgt : P.eqGuardType P.depth t = false) (b : Bool) (he : ∀ w, (binOp .eql t (.agg u) (.agg v)).run P w = .ok (.bool b) w)
    (h : wpList P ops Q rest (a.put o.dst (.bool b)) w) : wpList P ops Q (o :: rest) a w :=
  wpList_step fun K hK => by
    rw [if_pos hw]
    have hg : (eqGuard .eql t x y (.agg u) (.agg v)).run P w = .ok () w := run_eqGuard_agg w .eql t x y u v hgt
    unfold Oper.wp execOp
    simp only [ho, hx, hy, Sem.run_bind, hg, Result.andThen_ok, he]
    exact hK _ _ h
theorem dig_neqK (d : List UInt8) (hd : d.length = 32) (w : World) : (binOp .neq 23 (.agg (bc d)) (.agg (bc d))).run Tryd.prog w = .ok (.bool false) w := by
  have h := dig_eq d d hd hd w
  rw [decide_eq_true rfl] at h
  simp only [binOp, Op.equal] at h ⊢
  revert h
  simp only [Sem.run_bind]
  cases hh : (Op.equalIn Op.maxDepth 23 (.agg (bc d)) (.agg (bc d))).run Tryd.prog w with
  | ok v w' => intro h; simp [Result.andThen_ok] at h ⊢; obtain ⟨h1, h2⟩ := h; exact ⟨by simp [h1], h2⟩
  | halt e w' => intro h; simp [Result.andThen] at h
def Chunks (w : World) (p : Option Addr) (n : Nat) (f : Nat → List UInt8) : Prop :=
  ∃ b off, p = some ⟨b, off, none⟩ ∧ b < w.heap.size ∧ ∀ i, i < n → w.rangeAt b (off + i * 32) (Lib.byteCells (f i))
theorem Chunks.below {w w' : World} {p : Option Addr} {n : Nat} {f : Nat → List UInt8} (h : Chunks w p n f) (hb : Below w.heap.size w w') : Chunks w' p n f := by
  obtain ⟨b, off, rfl, hlt, hc⟩ := h
  exact ⟨b, off, rfl, Nat.lt_of_lt_of_le hlt hb.size, fun i hi => rangeAt_below (hc i hi) hb hlt⟩
theorem DL.chunks {w : World} {p : Option Addr} {ds : List (List UInt8)} (h : DL w p ds) (hn : ds ≠ []) : Chunks w p ds.length (fun i => ds.getD i []) := by
  obtain ⟨b, off, rfl, hlt, hc⟩ := h.2 hn
  exact ⟨b, off, rfl, hlt, hc⟩
theorem flat_chunks {w : World} {g n : Nat} {t : TypeId} {l : List UInt8} (hl : l.length = 32 * n) (h : w.heap[g]? = some (.cells (bc l) t (0, 0))) : Chunks w (some ⟨g, 0, none⟩) n (fun i => (l.drop (32 * i)).take 32) := by
  refine ⟨g, 0, rfl, (Array.getElem?_eq_some_iff.1 h).1, fun i hi j v hv => ?_⟩
  have hb := bytes_of_row h
  rw [Lib.byteCells, List.getElem?_map] at hv
  rw [List.getElem?_take] at hv
  split at hv
  · rename_i hj
    rw [List.getElem?_drop] at hv
    cases hq : l[32 * i + j]? with
    | none => rw [hq] at hv; simp at hv
    | some x =>
      rw [hq] at hv
      rw [Nat.zero_add, cell_of_row _ _ _ _ _ _ h]
      rw [show i * 32 + j = 32 * i + j by omega]
      rw [← hv]
      simp [bc, Lib.byteCells, hq]
  · simp at hv
set_option maxHeartbeats 1000000 in
set_option maxRecDepth 100000 in
theorem sameL_calls (p1 p2 : Option Addr) (n c1 c2 : Nat) (hnb : n < 4294967296) (f : Nat → List UInt8) (hf : ∀ i, i < n → (f i).length = 32) (w : World) (D1 : Chunks w p1 n f) (D2 : Chunks w p2 n f) :
    Calls Tryd.prog 22 #[.slice p1 n c1, .slice p2 n c2] w fun e w' => e = .returned (.bool true) ∧ Below w.heap.size w w' := by
  have Hp1 := hide D1
  have Hp2 := hide D2
  have Hf := hide hf
  clear D1 D2 hf
  go_enter Tryd.func22, Tryd.ntmps22
  go_wp2
  go_loopw [13] (fun i wr => ∃ j : Nat, j ≤ n ∧ i = .int .i64 (j : Int) ∧ Below w.heap.size w wr) (fun i _ => n - (intOf i).toNat)
  case atStart => exact ⟨0, by omega, rfl, Below.refl _ _⟩
  case round =>
    obtain ⟨j, hj, rfl, hb⟩ := hrel
    by_cases hlt : j < n
    · have hd : decide (j < n) = true := by simpa using hlt
      have bk : (j : Int) < (n : Int) := by omega
      obtain ⟨b1, off1, rfl, hz1, hby1⟩ := unhide Hp1
      obtain ⟨b2, off2, rfl, hz2, hby2⟩ := unhide Hp2
      have hch := unhide Hf j hlt
      have hr1 := hby1 j hlt
      have hr2 := hby2 j hlt
      obtain ⟨ch, hcc⟩ : ∃ ch, f j = ch := ⟨_, rfl⟩
      rw [hcc] at hch hr1 hr2
      have hC : ∀ w', (∃ p : Regrown, w' = Sort.grow (redrawn wr p.d) p.os) → Below w.heap.size w w' := fun w' ⟨p, hp⟩ => by
        rw [hp]; exact hb.trans ((below_regrown wr p.d p.os).mono hb.size)
      have r1 : Hid (∀ w', (∃ p : Regrown, w' = Sort.grow (redrawn wr p.d) p.os) → w'.rangeAt b1 (off1 + j * 32) (Lib.byteCells ch)) := fun w' hw' => rangeAt_below hr1 (hC w' hw') hz1
      have r2 : Hid (∀ w', (∃ p : Regrown, w' = Sort.grow (redrawn wr p.d) p.os) → w'.rangeAt b2 (off2 + j * 32) (Lib.byteCells ch)) := fun w' hw' => rangeAt_below hr2 (hC w' hw') hz2
      have hil : (Tryd.prog.info? 23).map (·.size) = some (Lib.byteCells ch).length := by rw [Lib.byteCells_length, hch]; kernel_rfl
      have hne := hide fun W => dig_neqK ch hch W
      clear hC hby1 hby2 hz1 hz2 hr1 hr2 hcc hch
      go_wp2_with fail
      refine wp_region_below mixed (by kernel_rfl) ?_
      quiet_step (fail)
      quiet_step (fail)
      quiet_step (fail)
      refine wpQuiet_load_mid rfl 23 (.tmp 18) rfl b1 (off1 + j * 32) rfl (Lib.byteCells ch) _ (unhide r1) Tryd.underlying23 rfl hil ?_
      quiet_step (fail)
      quiet_step (fail)
      quiet_step (fail)
      refine wpQuiet_load_mid rfl 23 (.tmp 22) rfl b2 (off2 + j * 32) rfl (Lib.byteCells ch) _ (unhide r2) Tryd.underlying23 rfl hil ?_
      have hne' : ∀ w, (binOp .neq 23 (.agg (Lib.byteCells ch).toArray) (.agg (Lib.byteCells ch).toArray)).run Tryd.prog w = .ok (.bool false) w := fun W => by have := unhide hne W; simpa [bc] using this
      quiet_step (fail)
      refine wpQuiet_nil ?_
      intro w3 hb3
      clear hne hne' hil r1 r2
      go_wp2
      go_roundw
      case rel => exact ⟨j + 1, by omega, by go_num, hb.trans (hb3.mono hb.size)⟩
      case measure => simp [intOf]; omega
    · have hd : decide (j < n) = false := by simpa using hlt
      go_wp2
      go_ret
      exact ⟨rfl, hb⟩
set_option maxHeartbeats 1000000 in
set_option maxRecDepth 100000 in
theorem sameS_calls (i : Int) (p1 p2 p3 q1 q2 q3 : Option Addr) (n1 n2 n3 c1 c2 c3 e1 e2 e3 : Nat) (h1 : n1 < 4294967296) (h2 : n2 < 4294967296) (h3 : n3 < 4294967296) (f1 f2 f3 : Nat → List UInt8) (hf1 : ∀ i, i < n1 → (f1 i).length = 32) (hf2 : ∀ i, i < n2 → (f2 i).length = 32) (hf3 : ∀ i, i < n3 → (f3 i).length = 32) (w : World)
    (A1 : Chunks w p1 n1 f1) (A2 : Chunks w p2 n2 f2) (A3 : Chunks w p3 n3 f3) (B1 : Chunks w q1 n1 f1) (B2 : Chunks w q2 n2 f2) (B3 : Chunks w q3 n3 f3) :
    Calls Tryd.prog 12 #[.agg #[.int .i64 i, .slice p1 n1 c1, .slice p2 n2 c2, .slice p3 n3 c3], .agg #[.int .i64 i, .slice q1 n1 e1, .slice q2 n2 e2, .slice q3 n3 e3]] w fun e w' => e = .returned (.bool true) ∧ Below w.heap.size w w' := by
  have r0 := (al2 w (.cells #[.int .i64 i, .slice p1 n1 c1, .slice p2 n2 c2, .slice p3 n3 c3] 31) (.cells #[.int .i64 i, .slice q1 n1 e1, .slice q2 n2 e2, .slice q3 n3 e3] 31)).1
  have r1 := (al2 w (.cells #[.int .i64 i, .slice p1 n1 c1, .slice p2 n2 c2, .slice p3 n3 c3] 31) (.cells #[.int .i64 i, .slice q1 n1 e1, .slice q2 n2 e2, .slice q3 n3 e3] 31)).2
  have hb0 := bel2 w (.cells #[.int .i64 i, .slice p1 n1 c1, .slice p2 n2 c2, .slice p3 n3 c3] 31) (.cells #[.int .i64 i, .slice q1 n1 e1, .slice q2 n2 e2, .slice q3 n3 e3] 31)
  have z0 : ((w.alloc (.cells #[.int .i64 i, .slice p1 n1 c1, .slice p2 n2 c2, .slice p3 n3 c3] 31)).alloc (.cells #[.int .i64 i, .slice q1 n1 e1, .slice q2 n2 e2, .slice q3 n3 e3] 31)).heap.size = w.heap.size + 1 + 1 := by simp
  go_enter Tryd.func12, Tryd.ntmps12
  go_wp2_with fail
  refine (sameL_calls _ _ n1 _ _ h1 f1 hf1 ((w.alloc (.cells #[.int .i64 i, .slice p1 n1 c1, .slice p2 n2 c2, .slice p3 n3 c3] 31)).alloc (.cells #[.int .i64 i, .slice q1 n1 e1, .slice q2 n2 e2, .slice q3 n3 e3] 31)) (A1.below hb0) (B1.below hb0)).mono ?_
  generalize (w.alloc (.cells #[.int .i64 i, .slice p1 n1 c1, .slice p2 n2 c2, .slice p3 n3 c3] 31)).alloc (.cells #[.int .i64 i, .slice q1 n1 e1, .slice q2 n2 e2, .slice q3 n3 e3] 31) = X at *
  rintro e w1 ⟨rfl, hb1⟩
  have s0 := Below.at hb1 (by omega) r0
  have s1 := Below.at hb1 (by omega) r1
  have b1 := hb0.trans (hb1.mono hb0.size)
  have z1 := hb1.size
  have k02 : w1.cell? ⟨w.heap.size, 2, none⟩ = some (.slice p2 n2 c2) := cell_of_row _ _ _ _ _ _ s0
  have k12 : w1.cell? ⟨w.heap.size + 1, 2, none⟩ = some (.slice q2 n2 e2) := cell_of_row _ _ _ _ _ _ s1
  clear r0 r1 hb0 hb1
  go_wp2_with fail
  refine (sameL_calls _ _ n2 _ _ h2 f2 hf2 w1 (A2.below b1) (B2.below b1)).mono ?_
  rintro e w2 ⟨rfl, hb2⟩
  have t0 := Below.at hb2 (by omega) s0
  have t1 := Below.at hb2 (by omega) s1
  have b2 := b1.trans (hb2.mono b1.size)
  have k03 : w2.cell? ⟨w.heap.size, 3, none⟩ = some (.slice p3 n3 c3) := cell_of_row _ _ _ _ _ _ t0
  have k13 : w2.cell? ⟨w.heap.size + 1, 3, none⟩ = some (.slice q3 n3 e3) := cell_of_row _ _ _ _ _ _ t1
  clear s0 s1 hb2 k02 k12 t0 t1
  go_wp2_with fail
  refine (sameL_calls _ _ n3 _ _ h3 f3 hf3 w2 (A3.below b2) (B3.below b2)).mono ?_
  rintro e w3 ⟨rfl, hb3⟩
  clear k03 k13
  go_wp2
  go_ret
  exact ⟨rfl, b2.trans (hb3.mono b2.size)⟩
set_option maxHeartbeats 1000000 in
set_option maxRecDepth 100000 in
theorem same_calls (seed : List UInt8) (h : seed.length = 32) (n : Int) (ds : List (List UInt8)) (hds : ds.length = 16) (p1 p2 : Option Addr) (c1 c2 : Nat) (w : World) (D1 : DL w p1 ds) (D2 : DL w p2 ds) :
    Calls Tryd.prog 9 #[.agg (sgc seed n (.slice p1 16 c1)), .agg (sgc seed n (.slice p2 16 c2))] w fun e w' => e = .returned (.bool true) ∧ Below w.heap.size w w' := by
  have hne : ds ≠ [] := by intro h0; rw [h0] at hds; simp at hds
  have hl := hide fun W (A : DL W p1 ds) (B : DL W p2 ds) => sameL_calls p1 p2 ds.length c1 c2 (by omega) (fun i => ds.getD i []) (fun i hi => A.len i hi) W (A.chunks hne) (B.chunks hne)
  rw [hds] at hl
  have hn1 := sgc_next seed h n (.slice p1 16 c1)
  have hn2 := sgc_next seed h n (.slice p2 16 c2)
  have hv1 := sgc_leaves seed h n (.slice p1 16 c1)
  have hv2 := sgc_leaves seed h n (.slice p2 16 c2)
  have hs1 := sgc_seed seed h n (.slice p1 16 c1)
  have hs2 := sgc_seed seed h n (.slice p2 16 c2)
  have hid : (Tryd.prog.info? 23).map (·.size) = some (Lib.byteCells seed).length := by rw [Lib.byteCells_length, h]; kernel_rfl
  have heq := hide fun W => dig_self seed h W
  obtain ⟨C1, hC1⟩ : ∃ C, sgc seed n (.slice p1 16 c1) = C := ⟨_, rfl⟩
  obtain ⟨C2, hC2⟩ : ∃ C, sgc seed n (.slice p2 16 c2) = C := ⟨_, rfl⟩
  rw [hC1] at hn1 hv1 hs1
  rw [hC2] at hn2 hv2 hs2
  rw [hC1, hC2]
  obtain ⟨a0, a1⟩ := al2 w (.cells C1 27) (.cells C2 36)
  have hb := bel2 w (.cells C1 27) (.cells C2 36)
  have E1 := D1.below hb (Nat.le_refl _)
  have E2 := D2.below hb (Nat.le_refl _)
  obtain ⟨X, hX⟩ : ∃ X, (w.alloc (.cells C1 27)).alloc (.cells C2 36) = X := ⟨_, rfl⟩
  rw [hX] at a0 a1 hb E1 E2
  have HX := hide hX
  have r0 := hide (hs1 X _ _ a0)
  have r1 := hide (hs2 X _ _ a1)
  have k0 : X.cell? ⟨w.heap.size, 32, none⟩ = some (.int .i64 n) := (cell_of_row _ _ _ _ _ _ a0).trans hn1
  have k1 : X.cell? ⟨w.heap.size + 1, 32, none⟩ = some (.int .i64 n) := (cell_of_row _ _ _ _ _ _ a1).trans hn2
  have m0 : X.cell? ⟨w.heap.size, 33, none⟩ = some (.slice p1 16 c1) := (cell_of_row _ _ _ _ _ _ a0).trans hv1
  have m1 : X.cell? ⟨w.heap.size + 1, 33, none⟩ = some (.slice p2 16 c2) := (cell_of_row _ _ _ _ _ _ a1).trans hv2
  clear hX hs1 hs2 hn1 hn2 hv1 hv2 hC1 hC2 D1 D2 hds hne a0 a1 h
  go_enter Tryd.func9, Tryd.ntmps9
  go_upto_region 1 with fail
  change Code.wp _ _ _ _ ((w.alloc (.cells C1 27)).alloc (.cells C2 36))
  rw [unhide HX]
  go_wp2_with (first
    | (refine wpList_load_mid_gk rfl 23 (.tmp 5) rfl w.heap.size 0 rfl (Lib.byteCells seed) _ (unhide r0) Tryd.underlying23 rfl hid ?_)
    | (refine wpList_load_mid_gk rfl 23 (.tmp 7) rfl (w.heap.size + 1) 0 rfl (Lib.byteCells seed) _ (unhide r1) Tryd.underlying23 rfl hid ?_)
    | (refine wpList_eql_gk rfl 23 23 (.tmp 6) (.tmp 8) rfl _ _ rfl rfl (by kernel_rfl) true (unhide heq) ?_))
  refine (unhide hl _ E1 E2).mono ?_
  rintro e w3 ⟨rfl, hb3⟩
  clear k0 k1 m0 m1 r0 r1
  go_wp2
  go_ret
  exact ⟨rfl, hb.trans (hb3.mono hb.size)⟩
end Go.Proofs.YtjoefhdclghgaaaDoor

namespace Go.Proofs.YtjoefhdclghgaaaDoor
open Go Go.RowKit
set_option linter.unusedSimpArgs false
set_option linter.unusedVariables false

def BL (w : World) (p : Option Addr) (B : List (List UInt8)) : Prop :=
  (∀ e ∈ B, e.length = 64) ∧ (B ≠ [] → ∃ b off, p = some ⟨b, off, none⟩ ∧ b < w.heap.size ∧ ∀ i, i < B.length → w.rangeAt b (off + i * 64) (Lib.byteCells (B.getD i [])))
theorem BL.below {w w' : World} {n : Nat} {p : Option Addr} {B : List (List UInt8)} (h : BL w p B) (hb : Below n w w') (hB : w.heap.size ≤ n) : BL w' p B := by
  refine ⟨h.1, fun hn => ?_⟩
  obtain ⟨b, off, rfl, hlt, hc⟩ := h.2 hn
  exact ⟨b, off, rfl, Nat.lt_of_lt_of_le hlt hb.size, fun i hi => rangeAt_below (hc i hi) hb (Nat.lt_of_lt_of_le hlt hB)⟩
theorem BL.len {w : World} {p : Option Addr} {B : List (List UInt8)} (h : BL w p B) (i : Nat) (hi : i < B.length) : (B.getD i []).length = 64 := by
  rw [List.getD_eq_getElem?_getD, List.getElem?_eq_getElem hi]
  exact h.1 _ (List.getElem_mem hi)
theorem built_sd (r d : List UInt8) (hr : r.length = 32) (hd : d.length = 32) : Tryd.prog.built 45 [(0, .agg (bc r)), (1, .agg (bc d))] = some (bc (r ++ d)) := by
  obtain ⟨a0, a1, a2, a3, a4, a5, a6, a7, a8, a9, a10, a11, a12, a13, a14, a15, a16, a17, a18, a19, a20, a21, a22, a23, a24, a25, a26, a27, a28, a29, a30, a31, rfl⟩ := list32 r hr
  obtain ⟨b0, b1, b2, b3, b4, b5, b6, b7, b8, b9, b10, b11, b12, b13, b14, b15, b16, b17, b18, b19, b20, b21, b22, b23, b24, b25, b26, b27, b28, b29, b30, b31, rfl⟩ := list32 d hd
  kernel_rfl
theorem built_rsd (r d : List UInt8) (hr : r.length = 32) (hd : d.length = 32) : Tryd.prog.built 46 [(0, .agg (bc r)), (1, .agg (bc d))] = some (bc (r ++ d)) := by
  obtain ⟨a0, a1, a2, a3, a4, a5, a6, a7, a8, a9, a10, a11, a12, a13, a14, a15, a16, a17, a18, a19, a20, a21, a22, a23, a24, a25, a26, a27, a28, a29, a30, a31, rfl⟩ := list32 r hr
  obtain ⟨b0, b1, b2, b3, b4, b5, b6, b7, b8, b9, b10, b11, b12, b13, b14, b15, b16, b17, b18, b19, b20, b21, b22, b23, b24, b25, b26, b27, b28, b29, b30, b31, rfl⟩ := list32 d hd
  kernel_rfl
theorem sdInfo (e : List UInt8) (h : e.length = 64) : (Tryd.prog.info? 45).map (·.size) = some (bc e).size := by rw [bc_size, h]; kernel_rfl
theorem rsdInfo (e : List UInt8) (h : e.length = 64) : (Tryd.prog.info? 46).map (·.size) = some (bc e).size := by rw [bc_size, h]; kernel_rfl
theorem sdInfo' (e : List UInt8) (h : e.length = 64) : (Tryd.prog.info? 45).map (·.size) = some (Lib.byteCells e).length := by rw [Lib.byteCells_length, h]; kernel_rfl
theorem rsdInfo' (e : List UInt8) (h : e.length = 64) : (Tryd.prog.info? 46).map (·.size) = some (Lib.byteCells e).length := by rw [Lib.byteCells_length, h]; kernel_rfl
theorem sdZero (e : List UInt8) (h : e.length = 64) : (bc (List.replicate 64 (0 : UInt8))).size = (bc e).size := by rw [bc_size, bc_size, h]; rfl
def sdL (l : List UInt8) : List Lit := (l.map fun b => (b.toNat : Int)).map (Lit.int .u8)
theorem halves (e : List UInt8) (h : e.length = 64) : ((bc e).toList.drop 0).take 32 = (bc (e.take 32)).toList ∧ ((bc e).toList.drop 32).take 32 = (bc (e.drop 32)).toList := by
  constructor
  · unfold bc Lib.byteCells; simp [List.map_take]
  · unfold bc Lib.byteCells; simp [List.map_drop]
    rw [List.take_of_length_le]; simp [h]
theorem sd_lits (e : List UInt8) (h : e.length = 64) : Tryd.prog.keyLits 3 45 (bc e).toList = some (sdL (e.take 32) ++ sdL (e.drop 32)) := by
  have hc : Tryd.prog.cellsOf 23 = 32 := by kernel_rfl
  have hct : Tryd.prog.cellsOf 45 = 64 := by kernel_rfl
  obtain ⟨e1, e2⟩ := halves e h
  have l1 := dig_lits (e.take 32) (by rw [List.length_take, h]; rfl)
  have l2 := dig_lits (e.drop 32) (by rw [List.length_drop, h])
  unfold Program.keyLits
  simp only [Tryd.underlying45]
  rw [if_pos ⟨by rw [hct]; simp [bc, Lib.byteCells_length, h], by kernel_rfl⟩]
  simp only [List.mapM_cons, List.mapM_nil, hc, e1, e2, l1, l2]
  simp [sdL]
theorem rsd_lits (e : List UInt8) (h : e.length = 64) : Tryd.prog.keyLits 3 46 (bc e).toList = some (sdL (e.take 32) ++ sdL (e.drop 32)) := by
  have hc : Tryd.prog.cellsOf 23 = 32 := by kernel_rfl
  have hct : Tryd.prog.cellsOf 46 = 64 := by kernel_rfl
  obtain ⟨e1, e2⟩ := halves e h
  have l1 := dig_lits (e.take 32) (by rw [List.length_take, h]; rfl)
  have l2 := dig_lits (e.drop 32) (by rw [List.length_drop, h])
  unfold Program.keyLits
  simp only [Tryd.underlying46]
  rw [if_pos ⟨by rw [hct]; simp [bc, Lib.byteCells_length, h], by kernel_rfl⟩]
  simp only [List.mapM_cons, List.mapM_nil, hc, e1, e2, l1, l2]
  simp [sdL]
theorem sdL_inj (a b : List UInt8) (h : sdL (a.take 32) ++ sdL (a.drop 32) = sdL (b.take 32) ++ sdL (b.drop 32)) : a = b := by
  have e : ∀ l : List UInt8, sdL (l.take 32) ++ sdL (l.drop 32) = sdL l := fun l => by
    unfold sdL; rw [← List.map_append, ← List.map_append, List.take_append_drop]
  rw [e, e] at h
  exact lits_inj a b h
theorem sd_formed (e : List UInt8) (h : e.length = 64) : (Value.agg (bc e)).formed Tryd.prog 45 = true := by
  simp only [Value.formed, Tryd.underlying45, bc_size, h]; kernel_rfl
theorem rsd_formed (e : List UInt8) (h : e.length = 64) : (Value.agg (bc e)).formed Tryd.prog 46 = true := by
  simp only [Value.formed, Tryd.underlying46, bc_size, h]; kernel_rfl
theorem sd_equal (a b : List UInt8) (ha : a.length = 64) (hb : b.length = 64) (w : World) : (Op.equalIn 10000 45 (.agg (bc a)) (.agg (bc b))).run Tryd.prog w = .ok (decide (a = b)) w := by
  obtain ⟨r, hr, hiff⟩ := run_equalIn_deep (P := Tryd.prog) (10000 - 3) 3 45 (by kernel_rfl) w 3 3 (.agg (bc a)) (.agg (bc b)) _ _ (sd_formed a ha) (sd_formed b hb) (sd_lits a ha) (sd_lits b hb)
  rw [show 10000 - 3 + 3 = 10000 by omega] at hr
  have : r = decide (a = b) := by
    by_cases h : a = b
    · rw [decide_eq_true h]; exact hiff.2 (by rw [h])
    · rw [decide_eq_false h]
      cases r with
      | false => rfl
      | true => exact absurd (sdL_inj a b (hiff.1 rfl)) h
  rw [hr, this]
theorem sd_eq (a b : List UInt8) (ha : a.length = 64) (hb : b.length = 64) (w : World) : (binOp .eql 45 (.agg (bc a)) (.agg (bc b))).run Tryd.prog w = .ok (.bool (decide (a = b))) w := by
  rw [run_eql_struct, sd_equal a b ha hb]; rfl
theorem rsd_equal (a : List UInt8) (ha : a.length = 64) (w : World) : (Op.equalIn 10000 46 (.agg (bc a)) (.agg (bc a))).run Tryd.prog w = .ok true w := by
  obtain ⟨r, hr, hiff⟩ := run_equalIn_deep (P := Tryd.prog) (10000 - 3) 3 46 (by kernel_rfl) w 3 3 (.agg (bc a)) (.agg (bc a)) _ _ (rsd_formed a ha) (rsd_formed a ha) (rsd_lits a ha) (rsd_lits a ha)
  rw [show 10000 - 3 + 3 = 10000 by omega] at hr
  rw [hr, hiff.2 rfl]
theorem rsd_neq (a : List UInt8) (ha : a.length = 64) (w : World) : (binOp .neq 46 (.agg (bc a)) (.agg (bc a))).run Tryd.prog w = .ok (.bool false) w := by
  have h' : (Op.equalIn Op.maxDepth 46 (.agg (bc a)) (.agg (bc a))).run Tryd.prog w = .ok true w := rsd_equal a ha w
  simp [binOp, Op.equal, h']
end Go.Proofs.YtjoefhdclghgaaaDoor

namespace Go.Proofs.YtjoefhdclghgaaaDoor
open Go Go.RowKit
set_option linter.unusedSimpArgs false
set_option linter.unusedVariables false

set_option maxHeartbeats 1000000 in
set_option maxRecDepth 100000 in
theorem sdIndex_calls (B : List (List UInt8)) (hn : B.length ≤ 1000000) (x : List UInt8) (hx : x.length = 64) (p : Option Addr) (c : Nat) (w : World) (hB : BL w p B) :
    Calls Tryd.prog 34 #[.slice p B.length c, .agg (bc x)] w fun e w' => (∃ v : Int, e = .returned (.int .i64 v) ∧ decide (0 ≤ v) = decide (x ∈ B)) ∧ Below w.heap.size w w' := by
  have q0 := al1 w (.cells (bc x) 45)
  have b0 : Below w.heap.size w (w.alloc (.cells (bc x) 45)) := Below.alloc (Below.refl _ _) (Nat.le_refl _) _
  have HB := hide hB
  obtain ⟨n, hnn⟩ : ∃ n, B.length = n := ⟨_, rfl⟩
  rw [hnn] at hn
  rw [hnn]
  have HN := hide hnn
  obtain ⟨X, hX⟩ : ∃ X, w.alloc (.cells (bc x) 45) = X := ⟨_, rfl⟩
  rw [hX] at q0 b0
  have HX := hide hX
  have hix := sdInfo x hx
  clear hB hnn hX
  go_enter Tryd.func34, Tryd.ntmps34
  go_upto_region 1 with fail
  change Code.wp _ _ _ _ (w.alloc (.cells (bc x) 45))
  rw [unhide HX]
  go_wp2
  go_loopw [8] (fun i wr => ∃ j : Nat, j ≤ n ∧ i = .int .i64 (j : Int) ∧ Below w.heap.size w wr ∧ wr.heap[w.heap.size]? = some (.cells (bc x) 45 (0, 0)) ∧ Hid (∀ i, i < j → B.getD i [] ≠ x)) (fun i _ => n - (intOf i).toNat)
  case atStart => exact ⟨0, by omega, rfl, b0, q0, hide fun i hi => absurd hi (Nat.not_lt_zero _)⟩
  case round =>
    obtain ⟨j, hj, rfl, hb, hq, hno⟩ := hrel
    clear q0 b0 HX
    by_cases hlt : j < n
    · have hd : decide (j < n) = true := by simpa using hlt
      have bk : (j : Int) < (n : Int) := by omega
      have hBw := (unhide HB).below hb (Nat.le_refl _)
      obtain ⟨b, off, rfl, hzb, hbr⟩ := hBw.2 (by intro h0; have := unhide HN; rw [h0] at this; simp at this; omega)
      have hr0 := hbr j (by rw [unhide HN]; exact hlt)
      have hel := hBw.len j (by rw [unhide HN]; exact hlt)
      have hmem : B.getD j [] ∈ B := by
        rw [List.getD_eq_getElem?_getD, List.getElem?_eq_getElem (by rw [unhide HN]; exact hlt)]
        exact List.getElem_mem _
      obtain ⟨E, hE⟩ : ∃ E, B.getD j [] = E := ⟨_, rfl⟩
      rw [hE] at hr0 hel hmem
      have HE := hide hE
      have Hmem := hide hmem
      have r0 : Hid (∀ w', (∃ p : Regrown, w' = Sort.grow (redrawn wr p.d) p.os) → w'.heap[w.heap.size]? = some (.cells (bc x) 45 (0, 0))) := fun w' ⟨p, hp⟩ => by rw [hp]; exact Below.at (below_regrown wr p.d p.os) (Array.getElem?_eq_some_iff.1 hq).1 hq
      have r1 : Hid (∀ w', (∃ p : Regrown, w' = Sort.grow (redrawn wr p.d) p.os) → w'.rangeAt b (off + j * 64) (Lib.byteCells E)) := fun w' ⟨p, hp⟩ => by rw [hp]; exact rangeAt_below hr0 (below_regrown wr p.d p.os) hzb
      have hie := sdInfo' E hel
      have heq := hide fun W => sd_eq x E hx hel W
      obtain ⟨ans, hans⟩ : ∃ ans, decide (x = E) = ans := ⟨_, rfl⟩
      rw [hans] at heq
      have Hans := hide hans
      clear hBw hbr hr0 hel hmem hE hans hzb
      go_wp2_with fail
      refine wp_region_below mixed (by kernel_rfl) ?_
      refine wpQuiet_load_row rfl 45 (.tmp 3) rfl w.heap.size rfl 45 _ (0, 0) _ (unhide r0) Tryd.underlying45 rfl hix ?_
      quiet_step (fail)
      quiet_step (fail)
      quiet_step (fail)
      refine wpQuiet_load_mid rfl 45 (.tmp 14) rfl b (off + j * 64) rfl (Lib.byteCells E) _ (unhide r1) Tryd.underlying45 rfl hie ?_
      refine wpQuiet_eql rfl 45 45 (.tmp 11) (.tmp 15) rfl _ _ rfl rfl (by kernel_rfl) ans (unhide heq) ?_
      refine wpQuiet_nil ?_
      intro w3 hb3
      have q3 := Below.at hb3 (Array.getElem?_eq_some_iff.1 hq).1 hq
      have bW3 := hb.trans (hb3.mono hb.size)
      clear heq hie r0 r1 hq hb3
      cases ans with
      | true =>
        go_wp2
        go_ret
        have e := of_decide_eq_true (unhide Hans)
        refine ⟨⟨(j : Int), rfl, ?_⟩, bW3⟩
        rw [decide_eq_true (by omega), decide_eq_true (by rw [e]; exact unhide Hmem)]
      | false =>
        go_wp2
        go_roundw
        case rel => exact ⟨j + 1, by omega, by go_num, bW3, q3, hide fun i hi => by
          rcases Nat.lt_succ_iff_lt_or_eq.1 hi with h' | rfl
          · exact unhide hno i h'
          · rw [unhide HE]; exact fun h' => of_decide_eq_false (unhide Hans) h'.symm⟩
        case measure => simp [intOf]; omega
    · have hd : decide (j < n) = false := by simpa using hlt
      go_wp2
      go_ret
      refine ⟨⟨-1, rfl, ?_⟩, hb⟩
      rw [decide_eq_false (by omega), decide_eq_false]
      intro hm
      obtain ⟨i, hi, he⟩ := List.getElem_of_mem hm
      refine unhide hno i (by have := unhide HN; omega) ?_
      rw [List.getD_eq_getElem?_getD, List.getElem?_eq_getElem hi]; exact he
set_option maxHeartbeats 1000000 in
set_option maxRecDepth 100000 in
theorem sdContains_calls (B : List (List UInt8)) (hn : B.length ≤ 1000000) (x : List UInt8) (hx : x.length = 64) (p : Option Addr) (c : Nat) (w : World) (hB : BL w p B) :
    Calls Tryd.prog 28 #[.slice p B.length c, .agg (bc x)] w fun e w' => e = .returned (.bool (decide (x ∈ B))) ∧ Below w.heap.size w w' := by
  have q0 := al1 w (.cells (bc x) 45)
  have b0 : Below w.heap.size w (w.alloc (.cells (bc x) 45)) := Below.alloc (Below.refl _ _) (Nat.le_refl _) _
  have CI := hide fun W hW => sdIndex_calls B hn x hx p c W hW
  have HB := hide (hB.below b0 (Nat.le_refl _))
  obtain ⟨ans, hans⟩ : ∃ ans, decide (x ∈ B) = ans := ⟨_, rfl⟩
  rw [hans] at CI ⊢
  obtain ⟨n, hnn⟩ : ∃ n, B.length = n := ⟨_, rfl⟩
  rw [hnn] at CI ⊢
  obtain ⟨X, hX⟩ : ∃ X, w.alloc (.cells (bc x) 45) = X := ⟨_, rfl⟩
  rw [hX] at q0 b0 HB
  have HX := hide hX
  have hix := sdInfo x hx
  clear hB hnn hX hans hn hx
  go_enter Tryd.func28, Tryd.ntmps28
  go_upto_region 1 with fail
  change Code.wp _ _ _ _ (w.alloc (.cells (bc x) 45))
  rw [unhide HX]
  go_wp2_with (refine wpList_load_row rfl 45 (.tmp 3) rfl w.heap.size rfl 45 _ (0, 0) _ q0 Tryd.underlying45 rfl hix ?_)
  refine (unhide CI _ (unhide HB)).mono ?_
  rintro e w3 ⟨⟨v, rfl, hv⟩, hb3⟩
  go_wp2
  go_ret
  exact ⟨rfl, b0.trans (hb3.mono b0.size)⟩
end Go.Proofs.YtjoefhdclghgaaaDoor

namespace Go.Proofs.YtjoefhdclghgaaaDoor
open Go Go.RowKit

theorem wpList_load_row_gd {P : Program} {ops : Array Oper} {rest : List Oper} {o : Oper} {a : Act} {w : World} {Q : Exit → Act → World → Prop} (hw : Region.wanted o (yielded ops a.tmps) = true) (ty : TypeId) (x : Operand) (ho : o.op = .load ty x)
    (g : Nat) (hx : a.eval x = .pointer (some ⟨g, 0, none⟩)) (t : TypeId) (cs : Array Value) (fr : Nat × Nat) (d : TypeDesc) (hg : w.heap[g]? = some (.cells cs t fr))
    (hu : P.underlying ty = some d) (hd : (match d with | .struct _ | .array _ _ => true | _ => false) = true) (hi : (P.info? ty).map (·.size) = some cs.size)
    (h : wpList P ops Q rest (a.put o.dst (.agg cs)) w) : wpList P ops Q (o :: rest) a w :=
  wpList_step fun K hK => by
    rw [if_pos hw]
    exact wp_load_row ty x ho g hx t cs fr d hg hu hd hi (hK _ _ h)
end Go.Proofs.YtjoefhdclghgaaaDoor

namespace Go.Proofs.YtjoefhdclghgaaaDoor
open Go Go.RowKit
set_option linter.unusedSimpArgs false
set_option linter.unusedVariables false

set_option maxHeartbeats 1000000 in
set_option maxRecDepth 100000 in
theorem has_calls (B : List (List UInt8)) (hn : B.length ≤ 1000000) (r d : List UInt8) (hr : r.length = 32) (hd : d.length = 32) (p : Option Addr) (c : Nat) (w : World) (hB : BL w p B) :
    Calls Tryd.prog 15 #[.slice p B.length c, .agg (bc r), .agg (bc d)] w fun e w' => e = .returned (.bool (decide (r ++ d ∈ B))) ∧ Below w.heap.size w w' := by
  obtain ⟨q0, q1⟩ := al2 w (.cells (bc r) 23) (.cells (bc d) 23)
  have b0 := bel2 w (.cells (bc r) 23) (.cells (bc d) 23)
  have CI := hide fun W hW => sdContains_calls B hn (r ++ d) (by rw [List.length_append, hr, hd]) p c W hW
  have HB := hide (hB.below b0 (Nat.le_refl _))
  have HS := hide (built_sd r d hr hd)
  have hi1 := digInfo r hr
  have hi2 := digInfo d hd
  obtain ⟨ans, hans⟩ : ∃ ans, decide (r ++ d ∈ B) = ans := ⟨_, rfl⟩
  rw [hans] at CI ⊢
  obtain ⟨n, hnn⟩ : ∃ n, B.length = n := ⟨_, rfl⟩
  rw [hnn] at CI ⊢
  obtain ⟨X, hX⟩ : ∃ X, (w.alloc (.cells (bc r) 23)).alloc (.cells (bc d) 23) = X := ⟨_, rfl⟩
  rw [hX] at q0 q1 b0 HB
  have HX := hide hX
  clear hB hnn hX hans hn hr hd
  go_enter Tryd.func15, Tryd.ntmps15
  go_upto_region 1 with fail
  change Code.wp _ _ _ _ ((w.alloc (.cells (bc r) 23)).alloc (.cells (bc d) 23))
  rw [unhide HX]
  go_wp2_with (first
    | (refine wpList_load_row rfl 23 (.tmp 4) rfl w.heap.size rfl 23 _ (0, 0) _ q0 Tryd.underlying23 rfl hi1 ?_)
    | (refine wpList_load_row rfl 23 (.tmp 5) rfl (w.heap.size + 1) rfl 23 _ (0, 0) _ q1 Tryd.underlying23 rfl hi2 ?_)
    | (refine wpList_build_to rfl 45 #[(0, .tmp 8), (1, .tmp 9)] rfl (bc (r ++ d)) (unhide HS) ?_))
  refine (unhide CI _ (unhide HB)).mono ?_
  rintro e w3 ⟨rfl, hb3⟩
  go_wp2
  go_ret
  exact ⟨rfl, b0.trans (hb3.mono b0.size)⟩
theorem mid_part {w : World} {g : Nat} {t : TypeId} {E : List UInt8} (h : w.heap[g]? = some (.cells (bc E) t (0, 0))) (o m : Nat) : w.rangeAt g o (Lib.byteCells ((E.drop o).take m)) := fun i v hv => by
  rw [cell_of_row _ _ _ _ _ _ h]
  rw [Lib.byteCells, List.getElem?_map, List.getElem?_take] at hv
  split at hv
  · rw [List.getElem?_drop] at hv
    rw [← hv]; simp [bc, Lib.byteCells]
  · simp at hv
theorem split_eq (E r d : List UInt8) (hE : E.length = 64) (hr : r.length = 32) (hd : d.length = 32) : E = r ++ d ↔ (E.drop 0).take 32 = r ∧ (E.drop 32).take 32 = d := by
  constructor
  · rintro rfl
    refine ⟨by rw [List.drop_zero, List.take_append_of_le_length (by omega), List.take_of_length_le (by omega)], ?_⟩
    rw [List.drop_append_of_le_length (by omega), List.drop_of_length_le (by omega), List.nil_append, List.take_of_length_le (by omega)]
  · rintro ⟨h1, h2⟩
    rw [← h1, ← h2, List.drop_zero, List.take_of_length_le (l := E.drop 32) (by rw [List.length_drop]; omega), List.take_append_drop]
set_option maxHeartbeats 1000000 in
set_option maxRecDepth 100000 in
theorem rhas_calls (B : List (List UInt8)) (hn : B.length ≤ 1000000) (r d : List UInt8) (hr : r.length = 32) (hd : d.length = 32) (p : Option Addr) (c : Nat) (w : World) (hB : BL w p B) :
    Calls Tryd.prog 16 #[.slice p B.length c, .agg (bc r), .agg (bc d)] w fun e w' => e = .returned (.bool (decide (r ++ d ∈ B))) ∧ Below w.heap.size w w' := by
  obtain ⟨q0, q1⟩ := al2 w (.cells (bc r) 23) (.cells (bc d) 23)
  have b0 := bel2 w (.cells (bc r) 23) (.cells (bc d) 23)
  have HB := hide hB
  have hi1 := digInfo r hr
  have hi2 := digInfo d hd
  obtain ⟨n, hnn⟩ : ∃ n, B.length = n := ⟨_, rfl⟩
  rw [hnn] at hn
  rw [hnn]
  have HN := hide hnn
  have Hr := hide hr
  have Hd := hide hd
  obtain ⟨ans, hans⟩ : ∃ ans, decide (r ++ d ∈ B) = ans := ⟨_, rfl⟩
  rw [hans]
  have Hans := hide hans
  obtain ⟨X, hX⟩ : ∃ X, (w.alloc (.cells (bc r) 23)).alloc (.cells (bc d) 23) = X := ⟨_, rfl⟩
  rw [hX] at q0 q1 b0
  have HX := hide hX
  clear hB hnn hX hans hr hd
  go_enter Tryd.func16, Tryd.ntmps16
  go_upto_region 1 with fail
  change Code.wp _ _ _ _ ((w.alloc (.cells (bc r) 23)).alloc (.cells (bc d) 23))
  rw [unhide HX]
  go_wp2
  go_loopw [11] (fun i wr => ∃ j : Nat, j ≤ n ∧ i = .int .i64 (j : Int) ∧ Below w.heap.size w wr ∧ wr.heap[w.heap.size]? = some (.cells (bc r) 23 (0, 0)) ∧ wr.heap[w.heap.size + 1]? = some (.cells (bc d) 23 (0, 0)) ∧ Hid (∀ i, i < j → B.getD i [] ≠ r ++ d)) (fun i _ => n - (intOf i).toNat)
  case atStart => exact ⟨0, by omega, rfl, b0, q0, q1, hide fun i hi => absurd hi (Nat.not_lt_zero _)⟩
  case round =>
    obtain ⟨j, hj, rfl, hb, p0, p1, hno⟩ := hrel
    clear q0 q1 b0 HX
    by_cases hlt : j < n
    · have hd : decide (j < n) = true := by simpa using hlt
      have bk : (j : Int) < (n : Int) := by omega
      have hBw := (unhide HB).below hb (Nat.le_refl _)
      obtain ⟨b, off, rfl, hzb, hbr⟩ := hBw.2 (by intro h0; have := unhide HN; rw [h0] at this; simp at this; omega)
      have hr0 := hbr j (by rw [unhide HN]; exact hlt)
      have hel := hBw.len j (by rw [unhide HN]; exact hlt)
      have hmem : B.getD j [] ∈ B := by
        rw [List.getD_eq_getElem?_getD, List.getElem?_eq_getElem (by rw [unhide HN]; exact hlt)]
        exact List.getElem_mem _
      obtain ⟨E, hE⟩ : ∃ E, B.getD j [] = E := ⟨_, rfl⟩
      rw [hE] at hr0 hel hmem
      have HE := hide hE
      have Hmem := hide hmem
      have Hr0 := hide hr0
      have Hel := hide hel
      have hie := rsdInfo' E hel
      have hie2 := rsdInfo E hel
      have hez := sdZero E hel
      have l1 : ((E.drop 0).take 32).length = 32 := by rw [List.length_take, List.length_drop]; omega
      have l2 : ((E.drop 32).take 32).length = 32 := by rw [List.length_take, List.length_drop]; omega
      have hj1 : (Tryd.prog.info? 23).map (·.size) = some (Lib.byteCells ((E.drop 0).take 32)).length := by rw [Lib.byteCells_length, l1]; kernel_rfl
      have hj2 : (Tryd.prog.info? 23).map (·.size) = some (Lib.byteCells ((E.drop 32).take 32)).length := by rw [Lib.byteCells_length, l2]; kernel_rfl
      have he1 := hide fun W => dig_eq ((E.drop 0).take 32) r l1 (unhide Hr) W
      have he2 := hide fun W => dig_eq ((E.drop 32).take 32) d l2 (unhide Hd) W
      have hsp := hide (split_eq E r d hel (unhide Hr) (unhide Hd))
      have hpart := hide fun (W : World) (g : Nat) (t : TypeId) (h : W.heap[g]? = some (.cells (bc E) t (0, 0))) => mid_part h 0 32
      have hpart2 := hide fun (W : World) (g : Nat) (t : TypeId) (h : W.heap[g]? = some (.cells (bc E) t (0, 0))) => mid_part h 32 32
      obtain ⟨a1, ha1⟩ : ∃ a, decide ((E.drop 0).take 32 = r) = a := ⟨_, rfl⟩
      obtain ⟨a2, ha2⟩ : ∃ a, decide ((E.drop 32).take 32 = d) = a := ⟨_, rfl⟩
      rw [ha1] at he1
      rw [ha2] at he2
      have Ha1 := hide ha1
      have Ha2 := hide ha2
      obtain ⟨E1, hE1⟩ : ∃ x, (E.drop 0).take 32 = x := ⟨_, rfl⟩
      obtain ⟨E2, hE2⟩ : ∃ x, (E.drop 32).take 32 = x := ⟨_, rfl⟩
      rw [hE1] at hj1 he1 hsp hpart Ha1
      rw [hE2] at hj2 he2 hsp hpart2 Ha2
      clear hBw hbr hr0 hel hmem hE hzb l1 l2 ha1 ha2 hE1 hE2
      have z0 := (Array.getElem?_eq_some_iff.1 p0).1
      have z1 := (Array.getElem?_eq_some_iff.1 p1).1
      go_upto_region 4 with (first
        | (refine wpList_load_mid_gk rfl 46 (.tmp 13) rfl b (off + j * 64) rfl (Lib.byteCells E) _ (unhide Hr0) Tryd.underlying46 rfl hie ?_)
        | (refine wpList_store_new rfl 46 (.tmp 8) (.tmp 14) rfl wr _ _ E rfl rfl hie2 hez ?_; intro w6 q8 b6 zz6))
      have bW6 := hb.trans (b6.mono hb.size)
      have r0 := Below.at b6 z0 p0
      have r1 := Below.at b6 z1 p1
      have m1 := hide (unhide hpart _ _ _ q8)
      have m2 := hide (unhide hpart2 _ _ _ q8)
      clear b6 p0 p1 q8 hpart hpart2 Hr0 hie hie2 hez
      cases a1 with
      | false =>
        go_wp2_with (first
          | go_skip
          | (refine wpList_load_mid_gk rfl 23 (.tmp 15) rfl wr.heap.size 0 rfl (Lib.byteCells E1) _ (unhide m1) Tryd.underlying23 rfl hj1 ?_)
          | (refine wpList_load_row rfl 23 (.tmp 4) rfl w.heap.size rfl 23 _ (0, 0) _ r0 Tryd.underlying23 rfl hi1 ?_)
          | (refine wpList_eql_gk rfl 23 23 (.tmp 16) (.tmp 17) rfl _ _ rfl rfl (by kernel_rfl) false (unhide he1) ?_))
        go_roundw
        case rel => exact ⟨j + 1, by omega, by go_num, bW6, r0, r1, hide fun i hi => by
          rcases Nat.lt_succ_iff_lt_or_eq.1 hi with h' | rfl
          · exact unhide hno i h'
          · rw [unhide HE]; exact fun h' => of_decide_eq_false (unhide Ha1) ((unhide hsp).1 h').1⟩
        case measure => simp [intOf]; omega
      | true =>
        cases a2 with
        | false =>
          go_wp2_with (first
            | (refine wpList_load_mid_gk rfl 23 (.tmp 15) rfl wr.heap.size 0 rfl (Lib.byteCells E1) _ (unhide m1) Tryd.underlying23 rfl hj1 ?_)
            | (refine wpList_load_mid_gk rfl 23 (.tmp 20) rfl wr.heap.size 32 rfl (Lib.byteCells E2) _ (unhide m2) Tryd.underlying23 rfl hj2 ?_)
            | (refine wpList_load_row rfl 23 (.tmp 4) rfl w.heap.size rfl 23 _ (0, 0) _ r0 Tryd.underlying23 rfl hi1 ?_)
            | (refine wpList_load_row_gd rfl 23 (.tmp 5) rfl (w.heap.size + 1) rfl 23 _ (0, 0) _ r1 Tryd.underlying23 rfl hi2 ?_)
            | (refine wpList_eql_gk rfl 23 23 (.tmp 16) (.tmp 17) rfl _ _ rfl rfl (by kernel_rfl) true (unhide he1) ?_)
            | (refine wpList_eql_gk rfl 23 23 (.tmp 21) (.tmp 22) rfl _ _ rfl rfl (by kernel_rfl) false (unhide he2) ?_))
          go_roundw
          case rel => exact ⟨j + 1, by omega, by go_num, bW6, r0, r1, hide fun i hi => by
            rcases Nat.lt_succ_iff_lt_or_eq.1 hi with h' | rfl
            · exact unhide hno i h'
            · rw [unhide HE]; exact fun h' => of_decide_eq_false (unhide Ha2) ((unhide hsp).1 h').2⟩
          case measure => simp [intOf]; omega
        | true =>
          go_wp2_with (first
            | (refine wpList_load_mid_gk rfl 23 (.tmp 15) rfl wr.heap.size 0 rfl (Lib.byteCells E1) _ (unhide m1) Tryd.underlying23 rfl hj1 ?_)
            | (refine wpList_load_mid_gk rfl 23 (.tmp 20) rfl wr.heap.size 32 rfl (Lib.byteCells E2) _ (unhide m2) Tryd.underlying23 rfl hj2 ?_)
            | (refine wpList_load_row rfl 23 (.tmp 4) rfl w.heap.size rfl 23 _ (0, 0) _ r0 Tryd.underlying23 rfl hi1 ?_)
            | (refine wpList_load_row_gd rfl 23 (.tmp 5) rfl (w.heap.size + 1) rfl 23 _ (0, 0) _ r1 Tryd.underlying23 rfl hi2 ?_)
            | (refine wpList_eql_gk rfl 23 23 (.tmp 16) (.tmp 17) rfl _ _ rfl rfl (by kernel_rfl) true (unhide he1) ?_)
            | (refine wpList_eql_gk rfl 23 23 (.tmp 21) (.tmp 22) rfl _ _ rfl rfl (by kernel_rfl) true (unhide he2) ?_))
          go_ret
          have e := (unhide hsp).2 ⟨of_decide_eq_true (unhide Ha1), of_decide_eq_true (unhide Ha2)⟩
          have e2 : ans = true := by rw [← unhide Hans, ← e]; exact decide_eq_true (unhide Hmem)
          exact ⟨by subst e2; rfl, bW6⟩
    · have hd : decide (j < n) = false := by simpa using hlt
      go_wp2
      go_ret
      have e2 : ans = false := by
        rw [← unhide Hans]
        refine decide_eq_false ?_
        intro hm
        obtain ⟨i, hi, he⟩ := List.getElem_of_mem hm
        refine unhide hno i (by have := unhide HN; omega) ?_
        rw [List.getD_eq_getElem?_getD, List.getElem?_eq_getElem hi]; exact he
      exact ⟨by subst e2; rfl, hb⟩
end Go.Proofs.YtjoefhdclghgaaaDoor

namespace Go.Proofs.YtjoefhdclghgaaaDoor
open Go Go.RowKit
set_option linter.unusedSimpArgs false
set_option linter.unusedVariables false

theorem fill_one {s : Nat} (hs : 0 < s) (cs cells : Array Value) (hc : cs.size = s) (hz : cells.size = s) : Instr.fill (fun i => some (i * s, s)) cells [(0, .agg cs)] = some cs := by
  obtain ⟨r, hr, hsz, hk⟩ := Great.fill_dense hs [.agg cs] 0 cells (by simp [Value.cells, hc]) (by simp [hz])
  have e : r = cs := by
    apply Array.ext_getElem?
    intro k
    rw [hk k]
    by_cases h : k < s
    · rw [if_pos (by simp; omega)]
      simp [Nat.div_eq_of_lt h, Nat.mod_eq_of_lt h, Value.cells]
    · rw [if_neg (by simp; omega), Array.getElem?_eq_none (by omega), Array.getElem?_eq_none (by omega)]
  rw [e] at hr
  exact hr
theorem rowInfo {P : Program} {e : TypeId} {s b : Nat} (hi : (P.info? e).map (fun i => (i.size, i.bytes, i.zero.map (·.cells.size))) = some (s, b, some s)) : ∃ i z, P.info? e = some i ∧ i.zero = some z ∧ i.size = s ∧ i.bytes = b ∧ z.cells.size = s := by
  cases hq : P.info? e with
  | none => rw [hq] at hi; cases hi
  | some i =>
    rw [hq] at hi
    simp only [Option.map_some, Option.some.injEq, Prod.mk.injEq] at hi
    obtain ⟨h1, h2, h3⟩ := hi
    cases hz : i.zero with
    | none => rw [hz] at h3; cases h3
    | some z =>
      rw [hz] at h3
      simp only [Option.map_some, Option.some.injEq] at h3
      exact ⟨i, z, rfl, hz, h1, h2, h3⟩
theorem wpList_build_one {P : Program} {ops : Array Oper} {rest : List Oper} {o : Oper} {a : Act} {w : World} {Q : Exit → Act → World → Prop} (hg : o.guard = none) (t e : TypeId) (x : Operand) (ho : o.op = .buildSlice t 1 #[(0, x)]) (s b : Nat) (hs : 0 < s) (hs2 : s ≤ 1000)
    (cs : Array Value) (hx : a.eval x = .agg cs) (hc : cs.size = s) (hu : P.underlying t = some (.slice e)) (hi : (P.info? e).map (fun i => (i.size, i.bytes, i.zero.map (·.cells.size))) = some (s, b, some s))
    (h : wpList P ops Q rest (a.put o.dst (.slice (some ⟨w.heap.size, 0, none⟩) 1 1)) (w.alloc (.cells cs e))) : wpList P ops Q (o :: rest) a w := by
  obtain ⟨i, z, hie, hz, h1, h2, h3⟩ := rowInfo hi
  refine wpList_buildSlice hg t e 1 #[(0, x)] ho cs i z hu hie hz (by rw [h1]; omega) (by rw [h1]; omega) ?_ h
  rw [h1, show (#[(0, x)].map fun (p : Nat × Operand) => (p.1, a.eval p.2)).toList = [(0, .agg cs)] by simp [hx]]
  exact fill_one hs cs _ hc (by simp)
theorem wpList_append_one {P : Program} {ops : Array Oper} {rest : List Oper} {o : Oper} {a : Act} {Q : Exit → Act → World → Prop} (hgd : o.guard = none) (t e : TypeId) (sx x : Operand)
    (ho : o.op = .call { callee := .builtin .append, args := #[sx, x], argTypes := #[t, t] }) (s b : Nat) (hs : 0 < s) (hb2 : b ≤ 100000) (hu : P.underlying t = some (.slice e)) (hi : (P.info? e).map (fun i => (i.size, i.bytes, i.zero.map (·.cells.size))) = some (s, b, some s))
    (B : Nat) (v : Value) (n : Nat) (xs : List Value) (hv : a.eval sx = v) (wr : World) (hown : wr.ownsRow B e s v n xs) (hB : B ≤ wr.heap.size) (cs : Array Value) (hc : cs.size = s) (h1 : cs.all (·.oneCell') = true)
    (hx : a.eval x = .slice (some ⟨wr.heap.size, 0, none⟩) 1 1) (hlen : n + 1 ≤ 1048576)
    (h : ∀ v' w', w'.ownsRow B e s v' (n + 1) (xs ++ cs.toList) → Below B wr w' → (∀ k, k < wr.heap.size → some k ≠ v.ownBlock → w'.heap[k]? = wr.heap[k]?) → wpList P ops Q rest (a.put o.dst v') w') : wpList P ops Q (o :: rest) a (wr.alloc (.cells cs e)) := by
  obtain ⟨i, z, hie, hz, e1, e2, e3⟩ := rowInfo hi
  refine wpList_append_own _ hgd sx x t ho B e i z s b hu hie hz e1 e2 e3 hs v n xs hv (hown.alloc _) ⟨wr.heap.size, 0, none⟩ 1 1 cs.toList hx (by simp [hc]) ?_ ?_ (by unfold maxLen; omega) ?_ (by rw [World.size_alloc]; omega) ?_
  · intro j u hj
    rw [show (⟨wr.heap.size, 0, none⟩ : Addr).add j = ⟨wr.heap.size, j, none⟩ by unfold Addr.add; split <;> simp_all, cell_of_row _ _ _ _ _ _ (al1 wr (.cells cs e))]
    rw [← Array.getElem?_toList]; exact hj
  · intro u hu'
    exact Array.all_eq_true_iff_forall_mem.1 h1 u (Array.mem_toList_iff.1 hu')
  · exact Nat.le_trans (Nat.mul_le_mul hlen hb2) (by decide)
  · intro v' w' ho' hg _
    have kept : ∀ k, k < wr.heap.size → some k ≠ v.ownBlock → w'.heap[k]? = wr.heap[k]? := fun k hk hn => (hg.block k (by rw [World.size_alloc]; omega) hn).trans (Below.heap_alloc wr _ k hk)
    refine h v' w' ho' ?_ kept
    have hA := (Below.refl B wr).alloc hB (.cells cs e)
    refine hA.trans ⟨hg.os, hg.tape, hg.output, hg.size, fun k hk => hg.block k (by rw [World.size_alloc]; omega) ?_⟩
    intro hc'
    have := (hown.lt k hc'.symm).1
    omega
end Go.Proofs.YtjoefhdclghgaaaDoor

namespace Go.Proofs.YtjoefhdclghgaaaDoor
open Go Go.RowKit
set_option linter.unusedSimpArgs false
set_option linter.unusedVariables false

theorem flat_get64 : ∀ (ds : List (List UInt8)), (∀ d ∈ ds, d.length = 64) → ∀ i r, i < ds.length → r < 64 → ds.flatten[i * 64 + r]? = (ds.getD i [])[r]?
  | [], _, i, r, hi, _ => by simp at hi
  | d :: ds, h, 0, r, _, hr => by
    have hd := h d (by simp)
    rw [List.flatten_cons, List.getElem?_append_left (by omega)]
    simp
  | d :: ds, h, i + 1, r, hi, hr => by
    have hd := h d (by simp)
    rw [List.flatten_cons, List.getElem?_append_right (by omega), hd, show (i + 1) * 64 + r - 64 = i * 64 + r by omega]
    rw [flat_get64 ds (fun x hx => h x (by simp [hx])) i r (by simpa using hi) hr]
    simp
theorem flat_len64 : ∀ (ds : List (List UInt8)), (∀ d ∈ ds, d.length = 64) → ds.flatten.length = 64 * ds.length
  | [], _ => rfl
  | d :: ds, h => by
    rw [List.flatten_cons, List.length_append, h d (by simp), flat_len64 ds (fun x hx => h x (by simp [hx])), List.length_cons]; omega
theorem byteCells_get' (l : List UInt8) (k : Nat) : (Lib.byteCells l)[k]? = l[k]?.map fun b => Value.int .u8 (b.toNat : Int) := by simp [Lib.byteCells]
theorem BL.cells {w : World} {ad : Addr} {B : List (List UInt8)} (h : BL w (some ad) B) (j : Nat) (u : Value) (hu : (Lib.byteCells B.flatten)[j]? = some u) : w.cell? (ad.add j) = some u := by
  have hj : j < 64 * B.length := by
    have := (List.getElem?_eq_some_iff.1 hu).1
    rwa [Lib.byteCells_length, flat_len64 B h.1] at this
  have hi : j / 64 < B.length := by omega
  obtain ⟨b', off', e, _, hc⟩ := h.2 (by intro h0; rw [h0] at hi; simp at hi)
  cases e
  have h1 := hc (j / 64) hi (j % 64) u (by
    rw [byteCells_get', ← flat_get64 B h.1 (j / 64) (j % 64) hi (by omega), ← byteCells_get', show j / 64 * 64 + j % 64 = j by omega]; exact hu)
  rw [show off' + j / 64 * 64 + j % 64 = off' + j by omega] at h1
  rw [show (⟨b', off', none⟩ : Addr).add j = ⟨b', off' + j, none⟩ by unfold Addr.add; split <;> simp_all]
  exact h1
theorem BL_of_owns {base : Nat} {w : World} {t : TypeId} {v : Value} {B : List (List UInt8)} (hB : ∀ e ∈ B, e.length = 64) (h : w.ownsRow base t 64 v B.length (Lib.byteCells B.flatten)) : ∃ p c, v = .slice p B.length c ∧ BL w p B := by
  rcases h.2 with ⟨rfl, h0⟩ | ⟨g, cap, cur, rfl, _, hg, _, _, _, ht⟩
  · exact ⟨none, 0, by rw [h0], hB, fun hn => absurd (List.length_eq_zero_iff.1 h0) hn⟩
  · refine ⟨_, cap, rfl, hB, fun _ => ⟨g, 0, rfl, (Array.getElem?_eq_some_iff.1 hg).1, fun i hi r u hu => ?_⟩⟩
    have hr : r < 64 := by
      have := (List.getElem?_eq_some_iff.1 hu).1
      rw [Lib.byteCells_length, List.getD_eq_getElem?_getD, List.getElem?_eq_getElem hi] at this
      have h2 := hB _ (List.getElem_mem hi)
      simp only [Option.getD_some] at this
      omega
    rw [Nat.zero_add, cell_of_row _ _ _ _ _ _ hg]
    have h1 : (Lib.byteCells B.flatten)[i * 64 + r]? = some u := by rw [byteCells_get', flat_get64 B hB i r hi hr, ← byteCells_get']; exact hu
    rw [← ht, List.getElem?_take] at h1
    split at h1
    · simpa using h1
    · cases h1
theorem owns_below {B : Nat} {w w' : World} {t : TypeId} {s n : Nat} {v : Value} {xs : List Value} (h : w.ownsRow B t s v n xs) (hb : Below w.heap.size w w') : w'.ownsRow B t s v n xs := by
  obtain ⟨h1, h2⟩ := h
  refine ⟨h1, ?_⟩
  rcases h2 with h2 | ⟨g, cap, cur, rfl, hB, hg, hc, hm, hs, ht⟩
  · exact .inl h2
  · exact .inr ⟨g, cap, cur, rfl, hB, Below.at hb (Array.getElem?_eq_some_iff.1 hg).1 hg, hc, hm, hs, ht⟩
theorem owns_base {B C : Nat} {w : World} {t : TypeId} {s n : Nat} {v : Value} {xs : List Value} (h : w.ownsRow B t s v n xs) (hC : C ≤ B) : w.ownsRow C t s v n xs := by
  obtain ⟨h1, h2⟩ := h
  refine ⟨h1, ?_⟩
  rcases h2 with h2 | ⟨g, cap, cur, rfl, hB, hg, hc, hm, hs, ht⟩
  · exact .inl h2
  · exact .inr ⟨g, cap, cur, rfl, by omega, hg, hc, hm, hs, ht⟩
theorem wpList_append_bk {P : Program} {ops : Array Oper} {rest : List Oper} {o : Oper} {a : Act} {Q : Exit → Act → World → Prop} (w : World) (hgd : o.guard = none) (t e : TypeId) (sx x : Operand)
    (ho : o.op = .call { callee := .builtin .append, args := #[sx, x], argTypes := #[t, t] }) (hu : P.underlying t = some (.slice e)) (hi : (P.info? e).map (fun i => (i.size, i.bytes, i.zero.map (·.cells.size))) = some (64, 64, some 64))
    (base : Nat) (v : Value) (n : Nat) (xs : List Value) (hv : a.eval sx = v) (hown : w.ownsRow base e 64 v n xs) (hb : base ≤ w.heap.size) (B : List (List UInt8)) (m : Nat) (hm : B.length = m) (ad : Addr) (c : Nat) (hB : BL w (some ad) B)
    (hx : a.eval x = .slice (some ad) m c) (hlen : n + m ≤ 1048576)
    (h : ∀ v' w', w'.ownsRow base e 64 v' (n + m) (xs ++ Lib.byteCells B.flatten) → Below base w w' → wpList P ops Q rest (a.put o.dst v') w') : wpList P ops Q (o :: rest) a w := by
  obtain ⟨i, z, hie, hz, e1, e2, e3⟩ := rowInfo hi
  refine wpList_append_own _ hgd sx x t ho base e i z 64 64 hu hie hz e1 e2 e3 (by decide) v n xs hv hown ad m c (Lib.byteCells B.flatten) hx (by rw [Lib.byteCells_length, flat_len64 B hB.1, hm]; omega) hB.cells (fun u hu => by obtain ⟨x, _, rfl⟩ := List.mem_map.1 hu; rfl) (by unfold maxLen; omega) (by omega) hb ?_
  intro v' w' ho' hg _
  refine h v' w' ho' ⟨hg.os, hg.tape, hg.output, hg.size, fun k hk => hg.block k (by omega) ?_⟩
  intro hc'
  have := (hown.lt k hc'.symm).1
  omega
theorem sdRowInfo : (Tryd.prog.info? 45).map (fun i => (i.size, i.bytes, i.zero.map (·.cells.size))) = some (64, 64, some 64) := by kernel_rfl
theorem rsdRowInfo : (Tryd.prog.info? 46).map (fun i => (i.size, i.bytes, i.zero.map (·.cells.size))) = some (64, 64, some 64) := by kernel_rfl
set_option maxHeartbeats 1000000 in
set_option maxRecDepth 100000 in
theorem sdClone_calls (B : List (List UInt8)) (hn : B.length ≤ 1000000) (p : Option Addr) (c : Nat) (w : World) (hB : BL w p B) :
    Calls Tryd.prog 27 #[.slice p B.length c] w fun e w' => (∃ v, e = .returned v ∧ w'.ownsRow w.heap.size 45 64 v B.length (Lib.byteCells B.flatten)) ∧ Below w.heap.size w w' := by
  have q22 : ∀ (w : World) (a : Option Addr) (n c n' c' : Nat), (binOp .eql 42 (.slice a n c) (.slice none n' c')).run Tryd.prog w = .ok (.bool a.isNone) w := fun w a n c n' c' => Lib.run_eql_slice_nil w _ _ a n c n' c' Tryd.underlying42
  cases p with
  | none =>
    have h0 : B = [] := by
      cases hBe : B with
      | nil => rfl
      | cons x l =>
        obtain ⟨b, off, e, _⟩ := hB.2 (by rw [hBe]; simp)
        cases e
    subst h0
    clear hB hn
    go_enter Tryd.func27, Tryd.ntmps27
    go_wp2
    go_ret
    exact ⟨⟨_, rfl, World.ownsRow_nil _ _ _ _⟩, Below.refl _ _⟩
  | some ad =>
    have HB := hide hB
    have HF := hide (fun (v : Value) (W : World) (h : W.ownsRow w.heap.size 45 64 v (0 + B.length) ([] ++ Lib.byteCells B.flatten)) => (by simpa using h : W.ownsRow w.heap.size 45 64 v B.length (Lib.byteCells B.flatten)))
    obtain ⟨n, hnn⟩ : ∃ n, B.length = n := ⟨_, rfl⟩
    rw [hnn] at hn
    rw [hnn] at HF
    rw [hnn]
    have HN := hide hnn
    have bA : Below w.heap.size w (w.alloc (.cells #[] 45)) := (Below.refl _ _).alloc (Nat.le_refl _) _
    have BA := hide bA
    clear hB hnn bA
    go_enter Tryd.func27, Tryd.ntmps27
    go_wp2_with (at_builtin; (refine wpList_append_bk _ rfl 42 45 (.tmp 5) (.tmp 6) rfl Tryd.underlying42 sdRowInfo w.heap.size _ 0 [] rfl (World.ownsRow_made w #[] 0 (Nat.le_refl _) (Nat.zero_le _) (by simp)) (by simp) B n (unhide HN) ad c ((unhide HB).below (unhide BA) (Nat.le_refl _)) rfl (by omega) ?_); intro v' w1 hown hb1)
    go_ret
    exact ⟨⟨_, rfl, unhide HF _ _ hown⟩, (unhide BA).trans hb1⟩
def noted (x : List UInt8) (B : List (List UInt8)) : List (List UInt8) := if x ∈ B then B else B ++ [x]
theorem noted_64 (x : List UInt8) (hx : x.length = 64) (B : List (List UInt8)) (hB : ∀ e ∈ B, e.length = 64) : ∀ e ∈ noted x B, e.length = 64 := by
  intro e he
  unfold noted at he
  split at he
  · exact hB e he
  · rcases List.mem_append.1 he with h | h
    · exact hB e h
    · rw [List.mem_singleton.1 h]; exact hx
theorem noted_mem (x : List UInt8) (B : List (List UInt8)) : x ∈ noted x B := by
  unfold noted
  split
  · assumption
  · simp
set_option maxHeartbeats 1000000 in
set_option maxRecDepth 100000 in
theorem note_calls (B : List (List UInt8)) (hn : B.length ≤ 1000) (r d : List UInt8) (hr : r.length = 32) (hd : d.length = 32) (p : Option Addr) (c : Nat) (w : World) (hB : BL w p B) :
    Calls Tryd.prog 13 #[.slice p B.length c, .agg (bc r), .agg (bc d)] w fun e w' => (∃ v, e = .returned v ∧ w'.ownsRow w.heap.size 45 64 v (noted (r ++ d) B).length (Lib.byteCells (noted (r ++ d) B).flatten)) ∧ Below w.heap.size w w' := by
  obtain ⟨q0, q1⟩ := al2 w (.cells (bc r) 23) (.cells (bc d) 23)
  have b0 := bel2 w (.cells (bc r) 23) (.cells (bc d) 23)
  have CC := hide fun W hW => sdClone_calls B (by omega) p c W hW
  have CH := hide fun W hW => has_calls B (by omega) r d hr hd p c W hW
  have HB := hide (hB.below b0 (Nat.le_refl _))
  have HS := hide (built_sd r d hr hd)
  have hi1 := digInfo r hr
  have hi2 := digInfo d hd
  have hxs : (bc (r ++ d)).size = 64 := by rw [bc_size, List.length_append, hr, hd]
  have hxo := bc_oneCell (r ++ d)
  have Hflat := hide (show Lib.byteCells (B ++ [r ++ d]).flatten = Lib.byteCells B.flatten ++ (bc (r ++ d)).toList by simp [Lib.byteCells, bc])
  have Hlen := hide (show (B ++ [r ++ d]).length = B.length + 1 by simp)
  obtain ⟨ans, hans⟩ : ∃ ans, decide (r ++ d ∈ B) = ans := ⟨_, rfl⟩
  rw [hans] at CH
  have Hn : Hid (noted (r ++ d) B = if ans = true then B else B ++ [r ++ d]) := hide (by
    unfold noted; rw [← hans]; by_cases hh : r ++ d ∈ B
    · simp [hh]
    · simp [hh])
  obtain ⟨NB, hNB⟩ : ∃ x, noted (r ++ d) B = x := ⟨_, rfl⟩
  rw [hNB] at Hn ⊢
  obtain ⟨n, hnn⟩ : ∃ n, B.length = n := ⟨_, rfl⟩
  rw [hnn] at CC CH Hlen ⊢
  rw [hnn] at hn
  have HNN := hide hnn
  obtain ⟨X, hX⟩ : ∃ X, (w.alloc (.cells (bc r) 23)).alloc (.cells (bc d) 23) = X := ⟨_, rfl⟩
  rw [hX] at q0 q1 b0 HB
  have HX := hide hX
  obtain ⟨XD, hXD⟩ : ∃ x, r ++ d = x := ⟨_, rfl⟩
  rw [hXD] at HS hxs hxo Hflat Hn Hlen
  have HNB := hide hNB
  clear hB hnn hX hans hr hd hXD hNB
  go_enter Tryd.func13, Tryd.ntmps13
  go_upto_region 1 with fail
  change Code.wp _ _ _ _ ((w.alloc (.cells (bc r) 23)).alloc (.cells (bc d) 23))
  rw [unhide HX]
  go_wp2_with fail
  refine (unhide CC _ (unhide HB)).mono ?_
  rintro e w3 ⟨⟨v, rfl, hown⟩, b3⟩
  have bW3 := b0.trans (b3.mono b0.size)
  have q3 := Below.at b3 (Array.getElem?_eq_some_iff.1 q0).1 q0
  have q4 := Below.at b3 (Array.getElem?_eq_some_iff.1 q1).1 q1
  have hB3 := (unhide HB).below b3 (Nat.le_refl _)
  have z0 := b0.size
  clear q0 q1 b3
  go_wp2_with (first
    | (refine wpList_load_row rfl 23 (.tmp 4) rfl w.heap.size rfl 23 _ (0, 0) _ q3 Tryd.underlying23 rfl hi1 ?_)
    | (refine wpList_load_row rfl 23 (.tmp 5) rfl (w.heap.size + 1) rfl 23 _ (0, 0) _ q4 Tryd.underlying23 rfl hi2 ?_))
  refine (unhide CH _ hB3).mono ?_
  rintro e w5 ⟨rfl, b5⟩
  have bW5 := bW3.trans (b5.mono bW3.size)
  have r3 := Below.at b5 (Array.getElem?_eq_some_iff.1 q3).1 q3
  have r4 := Below.at b5 (Array.getElem?_eq_some_iff.1 q4).1 q4
  have hown5 := owns_base (owns_below hown b5) z0
  have zz5 := bW5.size
  clear q3 q4 hown b5 hB3 z0 b0
  cases ans with
  | true =>
    have e1 : NB = B := by have := unhide Hn; simpa using this
    have Ho := hide hown5
    clear hown5
    go_wp2
    go_ret
    refine ⟨⟨_, rfl, ?_⟩, bW5⟩
    rw [e1, unhide HNN]
    exact unhide Ho
  | false =>
    have e1 : Hid (NB = B ++ [XD]) := hide (by have := unhide Hn; simpa using this)
    have Ho := hide hown5
    clear hown5
    go_wp2_with (first
      | (refine wpList_load_row rfl 23 (.tmp 4) rfl w.heap.size rfl 23 _ (0, 0) _ r3 Tryd.underlying23 rfl hi1 ?_)
      | (refine wpList_load_row rfl 23 (.tmp 5) rfl (w.heap.size + 1) rfl 23 _ (0, 0) _ r4 Tryd.underlying23 rfl hi2 ?_)
      | (refine wpList_build_to rfl 45 #[(0, .tmp 16), (1, .tmp 17)] rfl (bc XD) (unhide HS) ?_)
      | (refine wpList_build_one rfl 42 45 (.tmp 18) rfl 64 64 (by decide) (by decide) (bc XD) rfl hxs Tryd.underlying42 sdRowInfo ?_)
      | (at_builtin; (refine wpList_append_one rfl 42 45 (.tmp 15) (.tmp 19) rfl 64 64 (by decide) (by decide) Tryd.underlying42 sdRowInfo w.heap.size v n _ rfl w5 (unhide Ho) zz5 (bc XD) hxs hxo rfl (by omega) ?_); intro v' w6 o6 b6 k6; have O6 := hide o6; clear o6 k6))
    go_ret
    refine ⟨⟨_, rfl, ?_⟩, bW5.trans b6⟩
    rw [unhide e1, unhide Hflat, unhide Hlen]
    exact unhide O6
end Go.Proofs.YtjoefhdclghgaaaDoor

namespace Go.Proofs.YtjoefhdclghgaaaDoor
open Go Go.RowKit
set_option linter.unusedSimpArgs false
set_option linter.unusedVariables false

set_option maxHeartbeats 1000000 in
set_option maxRecDepth 100000 in
theorem rnote_calls (B : List (List UInt8)) (hn : B.length ≤ 1000) (r d : List UInt8) (hr : r.length = 32) (hd : d.length = 32) (p : Option Addr) (c : Nat) (w : World) (hB : BL w p B) :
    Calls Tryd.prog 14 #[.slice p B.length c, .agg (bc r), .agg (bc d)] w fun e w' => (∃ v, e = .returned v ∧ w'.ownsRow w.heap.size 46 64 v (noted (r ++ d) B).length (Lib.byteCells (noted (r ++ d) B).flatten)) ∧ Below w.heap.size w w' := by
  obtain ⟨q0, q1⟩ := al2 w (.cells (bc r) 23) (.cells (bc d) 23)
  have b0 := bel2 w (.cells (bc r) 23) (.cells (bc d) 23)
  have HF := hide (fun (base : Nat) (v : Value) (W : World) (h : W.ownsRow base 46 64 v (0 + B.length) ([] ++ Lib.byteCells B.flatten)) => (by simpa using h : W.ownsRow base 46 64 v B.length (Lib.byteCells B.flatten)))
  have HE := hide hB
  have CH := hide fun W hW => rhas_calls B (by omega) r d hr hd p c W hW
  have HB := hide (hB.below b0 (Nat.le_refl _))
  have HS := hide (built_rsd r d hr hd)
  have hi1 := digInfo r hr
  have hi2 := digInfo d hd
  have hxs : (bc (r ++ d)).size = 64 := by rw [bc_size, List.length_append, hr, hd]
  have hxo := bc_oneCell (r ++ d)
  have Hflat := hide (show Lib.byteCells (B ++ [r ++ d]).flatten = Lib.byteCells B.flatten ++ (bc (r ++ d)).toList by simp [Lib.byteCells, bc])
  have Hlen := hide (show (B ++ [r ++ d]).length = B.length + 1 by simp)
  obtain ⟨ans, hans⟩ : ∃ ans, decide (r ++ d ∈ B) = ans := ⟨_, rfl⟩
  rw [hans] at CH
  have Hn : Hid (noted (r ++ d) B = if ans = true then B else B ++ [r ++ d]) := hide (by
    unfold noted; rw [← hans]; by_cases hh : r ++ d ∈ B
    · simp [hh]
    · simp [hh])
  obtain ⟨NB, hNB⟩ : ∃ x, noted (r ++ d) B = x := ⟨_, rfl⟩
  rw [hNB] at Hn ⊢
  obtain ⟨n, hnn⟩ : ∃ n, B.length = n := ⟨_, rfl⟩
  rw [hnn] at HF CH Hlen ⊢
  rw [hnn] at hn
  have HNN := hide hnn
  obtain ⟨X, hX⟩ : ∃ X, (w.alloc (.cells (bc r) 23)).alloc (.cells (bc d) 23) = X := ⟨_, rfl⟩
  rw [hX] at q0 q1 b0 HB
  have HX := hide hX
  obtain ⟨XD, hXD⟩ : ∃ x, r ++ d = x := ⟨_, rfl⟩
  rw [hXD] at HS hxs hxo Hflat Hn Hlen
  have HNB := hide hNB
  clear hB hnn hX hans hr hd hXD hNB
  go_enter Tryd.func14, Tryd.ntmps14
  go_upto_region 1 with fail
  change Code.wp _ _ _ _ ((w.alloc (.cells (bc r) 23)).alloc (.cells (bc d) 23))
  rw [unhide HX]
  have z0 := b0.size
  cases p with
  | none =>
    have h0 : B = [] := by
      cases hBe : B with
      | nil => rfl
      | cons x l =>
        obtain ⟨b, off, e, _⟩ := (unhide HE).2 (by rw [hBe]; simp)
        cases e
    obtain rfl : n = 0 := by have := unhide HNN; rw [h0] at this; exact this.symm
    have HOWN : Hid (X.ownsRow w.heap.size 46 64 (.slice none 0 0) 0 (Lib.byteCells B.flatten)) := hide (by rw [h0]; exact World.ownsRow_nil _ _ _ _)
    have bW3 := b0
    have hB3 := unhide HB
    have q3 := q0
    have q4 := q1
    clear h0 q0 q1 HF
    go_wp2_with (first
      | (refine wpList_load_row rfl 23 (.tmp 4) rfl w.heap.size rfl 23 _ (0, 0) _ q3 Tryd.underlying23 rfl hi1 ?_)
      | (refine wpList_load_row rfl 23 (.tmp 5) rfl (w.heap.size + 1) rfl 23 _ (0, 0) _ q4 Tryd.underlying23 rfl hi2 ?_))
    refine (unhide CH _ hB3).mono ?_
    rintro e w5 ⟨rfl, b5⟩
    have bW5 := bW3.trans (b5.mono bW3.size)
    have r3 := Below.at b5 (Array.getElem?_eq_some_iff.1 q3).1 q3
    have r4 := Below.at b5 (Array.getElem?_eq_some_iff.1 q4).1 q4
    have hown5 := owns_below (unhide HOWN) b5
    have zz5 := bW5.size
    clear q3 q4 HOWN b5 hB3 z0 b0
    cases ans with
    | true =>
      have e1 : NB = B := by have := unhide Hn; simpa using this
      have Ho := hide hown5
      clear hown5
      go_wp2
      go_ret
      refine ⟨⟨_, rfl, ?_⟩, bW5⟩
      rw [e1, unhide HNN]
      exact unhide Ho
    | false =>
      have e1 : Hid (NB = B ++ [XD]) := hide (by have := unhide Hn; simpa using this)
      have Ho := hide hown5
      clear hown5
      go_wp2_with (first
        | (refine wpList_load_row rfl 23 (.tmp 4) rfl w.heap.size rfl 23 _ (0, 0) _ r3 Tryd.underlying23 rfl hi1 ?_)
        | (refine wpList_load_row rfl 23 (.tmp 5) rfl (w.heap.size + 1) rfl 23 _ (0, 0) _ r4 Tryd.underlying23 rfl hi2 ?_)
        | (refine wpList_build_to rfl 46 #[(0, .tmp 17), (1, .tmp 18)] rfl (bc XD) (unhide HS) ?_)
        | (refine wpList_build_one rfl 43 46 (.tmp 19) rfl 64 64 (by decide) (by decide) (bc XD) rfl hxs Tryd.underlying43 rsdRowInfo ?_)
        | (at_builtin; (refine wpList_append_one rfl 43 46 (.tmp 16) (.tmp 20) rfl 64 64 (by decide) (by decide) Tryd.underlying43 rsdRowInfo w.heap.size (.slice none 0 0) 0 _ rfl w5 (unhide Ho) zz5 (bc XD) hxs hxo rfl (by omega) ?_); intro v' w6 o6 b6 k6; have O6 := hide o6; clear o6 k6))
      go_ret
      refine ⟨⟨_, rfl, ?_⟩, bW5.trans b6⟩
      rw [unhide e1, unhide Hflat, unhide Hlen]
      exact unhide O6
  | some ad =>
    go_wp2_with (first
      | (at_builtin; (refine wpList_append_bk X rfl 43 46 (.tmp 8) (.tmp 9) rfl Tryd.underlying43 rsdRowInfo X.heap.size _ 0 [] rfl (World.ownsRow_nil _ _ _ _) (Nat.le_refl _) B n (unhide HNN) ad c (unhide HB) rfl (by omega) ?_); intro v w3 hown b3; have bW3 := b0.trans (b3.mono b0.size); have q3 := Below.at b3 (Array.getElem?_eq_some_iff.1 q0).1 q0; have q4 := Below.at b3 (Array.getElem?_eq_some_iff.1 q1).1 q1; have hB3 := (unhide HB).below b3 (Nat.le_refl _); have HOWN := hide (owns_base (unhide HF _ _ _ hown) z0); clear hown b3)
      | (refine wpList_load_row rfl 23 (.tmp 4) rfl w.heap.size rfl 23 _ (0, 0) _ q3 Tryd.underlying23 rfl hi1 ?_)
      | (refine wpList_load_row rfl 23 (.tmp 5) rfl (w.heap.size + 1) rfl 23 _ (0, 0) _ q4 Tryd.underlying23 rfl hi2 ?_))
    refine (unhide CH _ hB3).mono ?_
    rintro e w5 ⟨rfl, b5⟩
    have bW5 := bW3.trans (b5.mono bW3.size)
    have r3 := Below.at b5 (Array.getElem?_eq_some_iff.1 q3).1 q3
    have r4 := Below.at b5 (Array.getElem?_eq_some_iff.1 q4).1 q4
    have hown5 := owns_below (unhide HOWN) b5
    have zz5 := bW5.size
    clear q3 q4 HOWN b5 hB3 z0 b0
    cases ans with
    | true =>
      have e1 : NB = B := by have := unhide Hn; simpa using this
      have Ho := hide hown5
      clear hown5
      go_wp2
      go_ret
      refine ⟨⟨_, rfl, ?_⟩, bW5⟩
      rw [e1, unhide HNN]
      exact unhide Ho
    | false =>
      have e1 : Hid (NB = B ++ [XD]) := hide (by have := unhide Hn; simpa using this)
      have Ho := hide hown5
      clear hown5
      go_wp2_with (first
        | (refine wpList_load_row rfl 23 (.tmp 4) rfl w.heap.size rfl 23 _ (0, 0) _ r3 Tryd.underlying23 rfl hi1 ?_)
        | (refine wpList_load_row rfl 23 (.tmp 5) rfl (w.heap.size + 1) rfl 23 _ (0, 0) _ r4 Tryd.underlying23 rfl hi2 ?_)
        | (refine wpList_build_to rfl 46 #[(0, .tmp 17), (1, .tmp 18)] rfl (bc XD) (unhide HS) ?_)
        | (refine wpList_build_one rfl 43 46 (.tmp 19) rfl 64 64 (by decide) (by decide) (bc XD) rfl hxs Tryd.underlying43 rsdRowInfo ?_)
        | (at_builtin; (refine wpList_append_one rfl 43 46 (.tmp 16) (.tmp 20) rfl 64 64 (by decide) (by decide) Tryd.underlying43 rsdRowInfo w.heap.size v n _ rfl w5 (unhide Ho) zz5 (bc XD) hxs hxo rfl (by omega) ?_); intro v' w6 o6 b6 k6; have O6 := hide o6; clear o6 k6))
      go_ret
      refine ⟨⟨_, rfl, ?_⟩, bW5.trans b6⟩
      rw [unhide e1, unhide Hflat, unhide Hlen]
      exact unhide O6
end Go.Proofs.YtjoefhdclghgaaaDoor

namespace Go.Proofs.YtjoefhdclghgaaaDoor
open Go Go.RowKit
set_option linter.unusedSimpArgs false
set_option linter.unusedVariables false

theorem wpQuiet_neqB {P : Program} {ops : Array Oper} {C : World → Prop} {Q : Act → Prop} {a : Act} {o : Oper} {rest : List Oper} (hw : Region.wanted o (yielded ops a.tmps) = true) (t t' : TypeId) (x y : Operand) (ho : o.op = .binOp .neq t x y t')
    (u v : Array Value) (hx : a.eval x = .agg u) (hy : a.eval y = .agg v) (hgt : P.eqGuardType P.depth t = false) (b : Bool) (he : ∀ w, (binOp .neq t (.agg u) (.agg v)).run P w = .ok (.bool b) w)
    (h : wpQuiet P ops C Q rest (a.put o.dst (.bool b))) : wpQuiet P ops C Q (o :: rest) a := by
  show if _ then _ else _
  rw [if_pos hw]
  refine ⟨.bool b, fun w hC => ?_, h⟩
  have hg : (eqGuard .neq t x y (.agg u) (.agg v)).run P w = .ok () w := run_eqGuard_agg w .neq t x y u v hgt
  unfold Oper.quietAt execOp
  simp only [ho, hx, hy, Sem.run_bind, hg, Result.andThen_ok, he]
  exact ⟨rfl, rfl⟩
theorem take_snoc (B : List (List UInt8)) (j : Nat) (hj : j < B.length) : Lib.byteCells (B.take (j + 1)).flatten = Lib.byteCells (B.take j).flatten ++ (bc (B.getD j [])).toList := by
  rw [List.take_succ_eq_append_getElem hj, List.flatten_append, List.getD_eq_getElem?_getD, List.getElem?_eq_getElem hj]
  simp [Lib.byteCells, bc]
set_option maxHeartbeats 400000 in
set_option maxRecDepth 100000 in
theorem keysBooks_walk (B : List (List UInt8)) (hBl : B.length ≤ 9223372036854775807) (r d : List UInt8) (hr : r.length = 32) (hd : d.length = 32) (p : Option Addr) (cap0 : Nat) (w : World) (hB : BL w p B) (tabs : Tabs w) :
    Calls Tryd.prog 4 #[.slice p B.length cap0, .agg (bc r), .agg (bc d)] w fun e w' => e = .returned (.bool true) ∧ Below w.heap.size w w' := by
  have A := hide fun W t => kawake_calls W t
  obtain ⟨q0, q1⟩ := al2 w (.cells (bc r) 23) (.cells (bc d) 23)
  have b0 := bel2 w (.cells (bc r) 23) (.cells (bc d) 23)
  obtain ⟨X, hX⟩ : ∃ X, (w.alloc (.cells (bc r) 23)).alloc (.cells (bc d) 23) = X := ⟨_, rfl⟩
  rw [hX] at q0 q1 b0
  have HX := hide hX
  have HT := hide tabs
  have HB := hide hB
  by_cases hs : B.length ≤ 200
  case neg =>
    have hdd : decide ((200 : Int) < (B.length : Int)) = true := by simp; omega
    obtain ⟨n, hn⟩ : ∃ n, B.length = n := ⟨_, rfl⟩
    rw [hn] at hdd
    rw [hn]
    clear hn hs hB hBl hX tabs HB
    go_enter Tryd.func4, Tryd.ntmps4
    go_upto_region 1 with fail
    change Code.wp _ _ _ _ ((w.alloc (.cells (bc r) 23)).alloc (.cells (bc d) 23))
    rw [unhide HX]
    go_wp2_with fail
    refine (unhide A _ ((unhide HT).below b0 (Nat.le_refl _))).mono ?_
    rintro e w1 ⟨rfl, b1⟩
    have bW1 := b0.trans (b1.mono b0.size)
    go_wp2_with fail
    refine (unhide A _ ((unhide HT).below bW1 (Nat.le_refl _))).mono ?_
    rintro e w2 ⟨rfl, b2⟩
    go_wp2_with fail
    go_ret
    exact ⟨rfl, bW1.trans (b2.mono bW1.size)⟩
  have hdd : decide ((200 : Int) < (B.length : Int)) = false := by simp; omega
  have hi1 := digInfo r hr
  have hi2 := digInfo d hd
  have CN := hide fun W hW => note_calls B (by omega) r d hr hd p cap0 W hW
  have CR := hide fun p' c' W hW => rnote_calls B (by omega) r d hr hd p' c' W hW
  have CH := hide fun W hW => has_calls B (by omega) r d hr hd p cap0 W hW
  have CQ := hide fun p' c' W hW => rhas_calls B (by omega) r d hr hd p' c' W hW
  have hN64 := hide (noted_64 (r ++ d) (by rw [List.length_append, hr, hd]) B hB.1)
  have hNl : (noted (r ++ d) B).length ≤ 201 := by
    unfold noted
    split
    · omega
    · rw [List.length_append, List.length_singleton]; omega
  have CA0 := fun p' c' W hW => has_calls (noted (r ++ d) B) (by omega) r d hr hd p' c' W hW
  have hmem : decide (r ++ d ∈ noted (r ++ d) B) = true := decide_eq_true (noted_mem _ _)
  rw [hmem] at CA0
  have CA := hide CA0
  obtain ⟨ans, hans⟩ : ∃ ans, decide (r ++ d ∈ B) = ans := ⟨_, rfl⟩
  rw [hans] at CH CQ
  obtain ⟨NB, hNB⟩ : ∃ x, noted (r ++ d) B = x := ⟨_, rfl⟩
  rw [hNB] at CN CR CA hN64 hNl
  obtain ⟨m, hm⟩ : ∃ x, NB.length = x := ⟨_, rfl⟩
  rw [hm] at CA hNl
  have HM := hide hm
  obtain ⟨n, hn⟩ : ∃ n, B.length = n := ⟨_, rfl⟩
  rw [hn] at hdd hs CN CR CH CQ
  rw [hn]
  have HN := hide hn
  clear CA0 hmem hans hNB hm hn hB hBl hX tabs hr hd
  go_enter Tryd.func4, Tryd.ntmps4
  go_upto_region 1 with fail
  change Code.wp _ _ _ _ ((w.alloc (.cells (bc r) 23)).alloc (.cells (bc d) 23))
  rw [unhide HX]
  go_wp2_with fail
  refine (unhide A _ ((unhide HT).below b0 (Nat.le_refl _))).mono ?_
  rintro e w1 ⟨rfl, b1⟩
  have bW1 := b0.trans (b1.mono b0.size)
  have p0 := Below.at b1 (Array.getElem?_eq_some_iff.1 q0).1 q0
  have p1 := Below.at b1 (Array.getElem?_eq_some_iff.1 q1).1 q1
  have HP0 := hide p0
  have HP1 := hide p1
  have z1 := bW1.size
  clear q0 q1 b0 b1 p0 p1 HX
  go_wp2_with fail
  go_loopw [7, 21] (fun v i wr => ∃ j : Nat, j ≤ n ∧ i = .int .i64 (j : Int) ∧ wr.ownsRow w1.heap.size 46 64 v j (Lib.byteCells (B.take j).flatten) ∧ Below w1.heap.size w1 wr) (fun _ i _ => n - (intOf i).toNat)
  case atStart => exact ⟨0, by omega, rfl, World.ownsRow_nil _ _ _ _, Below.refl _ _⟩
  case round =>
    obtain ⟨j, hj, rfl, hO, hb⟩ := hrel
    have bWr := bW1.trans (hb.mono bW1.size)
    by_cases hlt : j < n
    · have hdj : decide (j < n) = true := by simpa using hlt
      have bk : (j : Int) < (n : Int) := by omega
      have hBw := (unhide HB).below bWr (Nat.le_refl _)
      obtain ⟨b, off, rfl, hzb, hbr⟩ := hBw.2 (by intro h0; have := unhide HN; rw [h0] at this; simp at this; omega)
      have hr0 := hide (hbr j (by rw [unhide HN]; exact hlt))
      have hel := hBw.len j (by rw [unhide HN]; exact hlt)
      have hsn := hide (take_snoc B j (by rw [unhide HN]; exact hlt))
      obtain ⟨E, hE⟩ : ∃ E, B.getD j [] = E := ⟨_, rfl⟩
      rw [hE] at hr0 hel hsn
      have hie := sdInfo' E hel
      have hie2 := sdInfo E hel
      have hez := sdZero E hel
      have hes : (bc E).size = 64 := by rw [bc_size, hel]
      have heo := bc_oneCell E
      have zz := hb.size
      have HO := hide hO
      have HBr := hide hb
      clear hBw hbr hE hel hzb hO hb
      go_wp2_with (first
        | (refine wpList_load_mid_gk rfl 45 (.tmp 23) rfl b (off + j * 64) rfl (Lib.byteCells E) _ (unhide hr0) Tryd.underlying45 rfl hie ?_)
        | (refine wpList_store_new rfl 45 (.tmp 9) (.tmp 24) rfl wr _ _ E rfl rfl hie2 hez ?_; intro w6 q8 b6 zz6; have HO6 := hide (owns_below (unhide HO) b6); have zz6' := Nat.le_trans zz b6.size)
        | (refine wpList_load_row rfl 45 (.tmp 9) rfl wr.heap.size rfl 45 _ (0, 0) _ q8 Tryd.underlying45 rfl hie2 ?_)
        | (refine wpList_build_one rfl 43 46 (.tmp 26) rfl 64 64 (by decide) (by decide) (bc E) rfl hes Tryd.underlying43 rsdRowInfo ?_)
        | (at_builtin; (refine wpList_append_one rfl 43 46 (.tmp 25) (.tmp 27) rfl 64 64 (by decide) (by decide) Tryd.underlying43 rsdRowInfo w1.heap.size u7 j _ rfl w6 (unhide HO6) zz6' (bc E) hes heo rfl (by omega) ?_); intro v' w7 o7 b7 k7; have O7 := hide o7; have K7 := hide k7; clear o7 k7))
      go_roundw
      case rel => exact ⟨j + 1, by omega, by go_num, by rw [unhide hsn]; exact unhide O7, ((unhide HBr).trans (b6.mono (unhide HBr).size)).trans b7⟩
      case measure => simp [intOf]; omega
    · have hdj : decide (j < n) = false := by simpa using hlt
      obtain rfl : j = n := by omega
      have hO' : wr.ownsRow w1.heap.size 46 64 u7 B.length (Lib.byteCells B.flatten) := by
        rw [← unhide HN, List.take_length] at hO
        exact hO
      obtain ⟨pq, cq, hv, hBq⟩ := BL_of_owns (unhide HB).1 hO'
      rw [unhide HN] at hv
      subst hv
      have r0 := Below.at hb (Array.getElem?_eq_some_iff.1 (unhide HP0)).1 (unhide HP0)
      have r1 := Below.at hb (Array.getElem?_eq_some_iff.1 (unhide HP1)).1 (unhide HP1)
      have hBp := (unhide HB).below bWr (Nat.le_refl _)
      have HBp := hide hBp
      have HBq := hide hBq
      have BW := hide bWr
      have rr0 : Hid (∀ W : World, Below wr.heap.size wr W → W.heap[w.heap.size]? = some (.cells (bc r) 23 (0, 0))) := hide fun W hW => Below.at hW (Array.getElem?_eq_some_iff.1 r0).1 r0
      have rr1 : Hid (∀ W : World, Below wr.heap.size wr W → W.heap[w.heap.size + 1]? = some (.cells (bc d) 23 (0, 0))) := hide fun W hW => Below.at hW (Array.getElem?_eq_some_iff.1 r1).1 r1
      clear hO hO' hBp hBq hb bWr r0 r1
      go_upto_region 11 with fail
      go_cut [10, 11] (fun va vb wc => ∃ (pa pb : Option Addr) (ca cb : Nat), va = .slice pa m ca ∧ vb = .slice pb m cb ∧ BL wc pa NB ∧ BL wc pb NB ∧ Below wr.heap.size wr wc)
      case first =>
        have hS0 : Below wr.heap.size wr { wr with drawn := wr.drawn + 1 } := ⟨rfl, rfl, rfl, Nat.le_refl _, fun _ _ => rfl⟩
        refine wp_region_held (S := fun W => Below wr.heap.size wr W) mixed ?_
        refine wpAnyH_take (i := 0) rfl (by kernel_rfl) (by kernel_rfl) (by kernel_rfl) (fun _ _ _ h => h) (.inl ⟨rfl, fun _ _ => rfl⟩) hS0 ?_
        refine wpAnyH_take (i := 1) rfl (by kernel_rfl) (by kernel_rfl) (by kernel_rfl) (fun _ _ _ h => h) (yields_row rfl 23 (.tmp 4) rfl w.heap.size rfl 23 (bc r) (0, 0) _ (unhide rr0) Tryd.underlying23 rfl hi1) hS0 ?_
        refine wpAnyH_take (i := 2) rfl (by kernel_rfl) (by kernel_rfl) (by kernel_rfl) (fun _ _ _ h => h) (yields_row rfl 23 (.tmp 5) rfl (w.heap.size + 1) rfl 23 (bc d) (0, 0) _ (unhide rr1) Tryd.underlying23 rfl hi2) hS0 ?_
        refine wpAnyH_take (i := 4) rfl (by kernel_rfl) (by kernel_rfl) (by kernel_rfl) (fun _ _ _ h => h) (.inl ⟨rfl, fun _ _ => rfl⟩) hS0 ?_
        refine wpAnyH_take (i := 5) rfl (by kernel_rfl) (by kernel_rfl) (by kernel_rfl) (fun _ _ _ h => h) (yields_row rfl 23 (.tmp 4) rfl w.heap.size rfl 23 (bc r) (0, 0) _ (unhide rr0) Tryd.underlying23 rfl hi1) hS0 ?_
        refine wpAnyH_take (i := 6) rfl (by kernel_rfl) (by kernel_rfl) (by kernel_rfl) (fun _ _ _ h => h) (yields_row rfl 23 (.tmp 5) rfl (w.heap.size + 1) rfl 23 (bc d) (0, 0) _ (unhide rr1) Tryd.underlying23 rfl hi2) hS0 ?_
        refine wpAnyH_one 3 _ (by kernel_rfl) rfl ?_
        · have hB1 := (unhide HBp).below hS0 (Nat.le_refl _)
          have hB2 := (unhide HBq).below hS0 (Nat.le_refl _)
          have HS0 := hide hS0
          clear hS0
          go_wp2_with fail
          refine (unhide CN _ hB1).mono ?_
          rintro e w5 ⟨⟨va, rfl, ha⟩, b5⟩
          have hS5 : Below wr.heap.size wr w5 := (unhide HS0).trans (b5.mono (Nat.le_refl _))
          have hB5 := hB2.below b5 (Nat.le_refl _)
          have HA := hide ha
          clear ha hB1 hB2 b5
          go_wp2
          refine ⟨hS5, ?_⟩
          refine wpAnyH_one 7 _ (by kernel_rfl) rfl ?_
          go_wp2_with fail
          refine (unhide CR _ _ _ hB5).mono ?_
          rintro e w6 ⟨⟨vb, rfl, hvb⟩, b6⟩
          have hS6 : Below wr.heap.size wr w6 := hS5.trans (b6.mono hS5.size)
          have ha6 := owns_below (unhide HA) b6
          obtain ⟨pa, ca, rfl, hBa⟩ := BL_of_owns (unhide hN64) ha6
          obtain ⟨pb, cb, rfl, hBb⟩ := BL_of_owns (unhide hN64) hvb
          have HF := hide (show ∃ (pa' pb' : Option Addr) (ca' cb' : Nat), Value.slice pa NB.length ca = .slice pa' m ca' ∧ Value.slice pb NB.length cb = .slice pb' m cb' ∧ BL w6 pa' NB ∧ BL w6 pb' NB ∧ Below wr.heap.size wr w6 from ⟨pa, pb, ca, cb, by rw [unhide HM], by rw [unhide HM], hBa, hBb, hS6⟩)
          have HS6 := hide hS6
          clear hS6 ha6 hBa hBb hvb b6 hB5 hS5 HA
          go_wp2
          refine ⟨unhide HS6, ?_⟩
          refine wpAnyH_one 8 _ (by kernel_rfl) rfl ?_
          go_wp2
          refine ⟨unhide HS6, ?_⟩
          refine wpAnyH_one 9 _ (by kernel_rfl) rfl ?_
          go_wp2
          refine ⟨unhide HS6, wpAnyH_done (by kernel_rfl) ?_ _⟩
          go_wp2
          go_meet
          case rel => exact unhide HF
      case rest =>
        obtain ⟨pa, pb, ca, cb, rfl, rfl, hBa, hBb, bX⟩ := hcut
        have bWX := (unhide BW).trans (bX.mono (unhide BW).size)
        have s0 := unhide rr0 wc bX
        have s1 := unhide rr1 wc bX
        have hP := (unhide HBp).below bX (Nat.le_refl _)
        have hQ := (unhide HBq).below bX (Nat.le_refl _)
        have R0 : Hid (∀ w', (∃ p : Regrown, w' = Sort.grow (redrawn wc p.d) p.os) → w'.heap[w.heap.size]? = some (.cells (bc r) 23 (0, 0))) := fun w' ⟨p, hp⟩ => by rw [hp]; exact Below.at (below_regrown wc p.d p.os) (Array.getElem?_eq_some_iff.1 s0).1 s0
        have R1 : Hid (∀ w', (∃ p : Regrown, w' = Sort.grow (redrawn wc p.d) p.os) → w'.heap[w.heap.size + 1]? = some (.cells (bc d) 23 (0, 0))) := fun w' ⟨p, hp⟩ => by rw [hp]; exact Below.at (below_regrown wc p.d p.os) (Array.getElem?_eq_some_iff.1 s1).1 s1
        have kH := hide fun dd os => Calls.regrown_of (w := wc) (d := dd) (os := os) (unhide CH _ (hP.below (below_regrown wc dd os) (Nat.le_refl _)))
        have kQ := hide fun dd os => Calls.regrown_of (w := wc) (d := dd) (os := os) (unhide CQ pq cq _ (hQ.below (below_regrown wc dd os) (Nat.le_refl _)))
        have kA := hide fun dd os => Calls.regrown_of (w := wc) (d := dd) (os := os) (unhide CA pa ca _ (hBa.below (below_regrown wc dd os) (Nat.le_refl _)))
        have HBa := hide hBa
        have HBb := hide hBb
        clear hP hQ s0 s1 hBa hBb rr0 rr1 CN CR CH CQ CA HBp HBq
        go_wp2_with fail
        refine wp_region_below mixed (by kernel_rfl) ?_
        iterate 7 quiet_step (fail)
        refine wpQuiet_load_row rfl 23 (.tmp 4) rfl w.heap.size rfl 23 _ (0, 0) _ (unhide R0) Tryd.underlying23 rfl hi1 ?_
        refine wpQuiet_load_row rfl 23 (.tmp 5) rfl (w.heap.size + 1) rfl 23 _ (0, 0) _ (unhide R1) Tryd.underlying23 rfl hi2 ?_
        quiet_step (exact unhide kH _ _)
        quiet_step (fail)
        refine wpQuiet_load_row rfl 23 (.tmp 4) rfl w.heap.size rfl 23 _ (0, 0) _ (unhide R0) Tryd.underlying23 rfl hi1 ?_
        refine wpQuiet_load_row rfl 23 (.tmp 5) rfl (w.heap.size + 1) rfl 23 _ (0, 0) _ (unhide R1) Tryd.underlying23 rfl hi2 ?_
        quiet_step (exact unhide kQ _ _)
        quiet_step (fail)
        quiet_step (fail)
        quiet_step (fail)
        quiet_step (fail)
        refine wpQuiet_load_row rfl 23 (.tmp 4) rfl w.heap.size rfl 23 _ (0, 0) _ (unhide R0) Tryd.underlying23 rfl hi1 ?_
        refine wpQuiet_load_row rfl 23 (.tmp 5) rfl (w.heap.size + 1) rfl 23 _ (0, 0) _ (unhide R1) Tryd.underlying23 rfl hi2 ?_
        quiet_step (exact unhide kA _ _)
        repeat (quiet_step (fail))
        refine wpQuiet_nil ?_
        intro w8 b8
        have bW8 := bWX.trans (b8.mono bWX.size)
        have HA8 := hide ((unhide HBa).below b8 (Nat.le_refl _))
        have HB8 := hide ((unhide HBb).below b8 (Nat.le_refl _))
        have BW8 := hide bW8
        clear R0 R1 kH kQ kA HBa HBb b8 bWX bX bW8 BW
        go_wp2
        go_loopw [63] (fun i wq => ∃ j : Nat, j ≤ m ∧ i = .int .i64 (j : Int) ∧ Below w8.heap.size w8 wq) (fun i _ => m - (intOf i).toNat)
        case atStart => exact ⟨0, by omega, rfl, Below.refl _ _⟩
        case round =>
          obtain ⟨j2, hj2, rfl, hb2⟩ := hrel
          have bWq := (unhide BW8).trans (hb2.mono (unhide BW8).size)
          by_cases hl2 : j2 < m
          · have hd2 : decide (j2 < m) = true := by simpa using hl2
            have bk2 : (j2 : Int) < (m : Int) := by omega
            have hA := (unhide HA8).below hb2 (Nat.le_refl _)
            have hBB := (unhide HB8).below hb2 (Nat.le_refl _)
            have hnn : NB ≠ [] := by intro h0; have := unhide HM; rw [h0] at this; simp at this; omega
            obtain ⟨ba, offa, rfl, hza, hca⟩ := hA.2 hnn
            obtain ⟨bb, offb, rfl, hzb, hcb⟩ := hBB.2 hnn
            have ra := hca j2 (by rw [unhide HM]; exact hl2)
            have rb := hcb j2 (by rw [unhide HM]; exact hl2)
            have hel := hA.len j2 (by rw [unhide HM]; exact hl2)
            obtain ⟨E, hE⟩ : ∃ E, NB.getD j2 [] = E := ⟨_, rfl⟩
            rw [hE] at ra rb hel
            have Ra : Hid (∀ w', (∃ p : Regrown, w' = Sort.grow (redrawn wr p.d) p.os) → w'.rangeAt ba (offa + j2 * 64) (Lib.byteCells E)) := fun w' ⟨p, hp⟩ => by rw [hp]; exact rangeAt_below ra (below_regrown wr p.d p.os) hza
            have Rb : Hid (∀ w', (∃ p : Regrown, w' = Sort.grow (redrawn wr p.d) p.os) → w'.rangeAt bb (offb + j2 * 64) (Lib.byteCells E)) := fun w' ⟨p, hp⟩ => by rw [hp]; exact rangeAt_below rb (below_regrown wr p.d p.os) hzb
            have ia := sdInfo' E hel
            have ib := rsdInfo' E hel
            have hne := hide fun W => rsd_neq E hel W
            have BWq := hide bWq
            clear hA hBB hnn hza hzb hca hcb ra rb hel hE bWq
            go_wp2_with fail
            refine wp_region_below mixed (by kernel_rfl) ?_
            quiet_step (fail)
            quiet_step (fail)
            quiet_step (fail)
            refine wpQuiet_load_mid rfl 45 (.tmp 68) rfl ba (offa + j2 * 64) rfl (Lib.byteCells E) _ (unhide Ra) Tryd.underlying45 rfl ia ?_
            quiet_step (fail)
            quiet_step (fail)
            quiet_step (fail)
            refine wpQuiet_load_mid rfl 46 (.tmp 72) rfl bb (offb + j2 * 64) rfl (Lib.byteCells E) _ (unhide Rb) Tryd.underlying46 rfl ib ?_
            refine wpQuiet_neqB rfl 46 46 (.tmp 69) (.tmp 73) rfl _ _ rfl rfl (by kernel_rfl) false (unhide hne) ?_
            refine wpQuiet_nil ?_
            intro w9 b9
            have hb9 := hb2.trans (b9.mono hb2.size)
            clear hne Ra Rb ia ib b9
            go_wp2
            go_roundw
            case rel => exact ⟨j2 + 1, by omega, by go_num, hb9⟩
            case measure => simp [intOf]; omega
          · have hd2 : decide (j2 < m) = false := by simpa using hl2
            go_wp2_with fail
            refine (unhide A _ ((unhide HT).below bWq (Nat.le_refl _))).mono ?_
            rintro e w10 ⟨rfl, b10⟩
            go_wp2_with fail
            go_ret
            exact ⟨rfl, bWq.trans (b10.mono bWq.size)⟩
end Go.Proofs.YtjoefhdclghgaaaDoor

namespace Go.Proofs.YtjoefhdclghgaaaDoor
open Go.ChangeShapes Go.WideShapes Go.ChangeAt Go.RowKit

theorem shaOwn : ownKnob Tryd.prog.godebug = none := by kernel_rfl
theorem shaLaidOut : laidOutB Tryd.prog = true := by kernel_rfl
theorem gFirst : Tryd.prog.globalNamed "pontoon/sha.firstWords" = some 0 := by kernel_rfl
theorem gFirstType : (Tryd.prog.globals[0]?).map (·.type) = some 95 := by kernel_rfl
theorem gRound : Tryd.prog.globalNamed "pontoon/sha.roundWords" = some 1 := by kernel_rfl
theorem gRoundType : (Tryd.prog.globals[1]?).map (·.type) = some 112 := by kernel_rfl
theorem cells64 : Tryd.prog.cellsOf 112 = 64 := by kernel_rfl
theorem cells8 : Tryd.prog.cellsOf 95 = 8 := by kernel_rfl
theorem cellsW : Tryd.prog.cellsOf 76 = 1 := by kernel_rfl

/-- What a row lists of package sha. -/
def shaListed : List (String × DataW Unit) := [("pontoon/sha.firstWords", Rows.laid_pontoon_sha_firstWords), ("pontoon/sha.roundWords", Rows.laid_pontoon_sha_roundWords)]
def kInts : List Int := [1116352408, 1899447441, 3049323471, 3921009573, 961987163, 1508970993, 2453635748, 2870763221, 3624381080, 310598401, 607225278, 1426881987, 1925078388, 2162078206, 2614888103, 3248222580, 3835390401, 4022224774, 264347078, 604807628, 770255983, 1249150122, 1555081692, 1996064986, 2554220882, 2821834349, 2952996808, 3210313671, 3336571891, 3584528711, 113926993, 338241895, 666307205, 773529912, 1294757372, 1396182291, 1695183700, 1986661051, 2177026350, 2456956037, 2730485921, 2820302411, 3259730800, 3345764771, 3516065817, 3600352804, 4094571909, 275423344, 430227734, 506948616, 659060556, 883997877, 958139571, 1322822218, 1537002063, 1747873779, 1955562222, 2024104815, 2227730452, 2361852424, 2428436474, 2756734187, 3204031479, 3329325298]
def hInts : List Int := [1779033703, 3144134277, 1013904242, 2773480762, 1359893119, 2600822924, 528734635, 1541459225]
theorem kInts_at : ∀ j, j < 64 → kInts.getD j 0 = ((kWords.getD j 0).toNat : Int) := by decide +kernel
theorem hInts_at : ∀ j, j < 8 → hInts.getD j 0 = ((hWords.getD j 0).toNat : Int) := by decide +kernel

theorem tabs_of {W : World} (h : laidMetH Tryd.prog shaListed W) : Tabs W := by
  have h1 : Lib.TabIs Tryd.prog W "pontoon/sha.firstWords" .u32 hInts :=
    Lib.tabIs_of_head (rest := [("pontoon/sha.roundWords", Rows.laid_pontoon_sha_roundWords)]) gFirst gFirstType Tryd.underlying95 Tryd.underlying76 cellsW cells8 h
  have e : shaListed.filter (fun x => x.1 == "pontoon/sha.roundWords") = [("pontoon/sha.roundWords", Rows.laid_pontoon_sha_roundWords)] := by kernel_rfl
  have hf := h.filter (fun x => x.1 == "pontoon/sha.roundWords")
  rw [e] at hf
  have h2 : Lib.TabIs Tryd.prog W "pontoon/sha.roundWords" .u32 kInts :=
    Lib.tabIs_of_head (rest := []) gRound gRoundType Tryd.underlying112 Tryd.underlying76 cellsW cells64 hf
  have k : ∀ j, j < 64 → W.cell? ⟨1, j, none⟩ = some (.int .u32 ((kWords.getD j 0).toNat : Int)) := fun j hj => by
    rw [← kInts_at j hj]; exact h2.cell gRound j (by simpa [kInts] using hj)
  have hh : ∀ j, j < 8 → W.cell? ⟨0, j, none⟩ = some (.int .u32 ((hWords.getD j 0).toNat : Int)) := fun j hj => by
    rw [← hInts_at j hj]; exact h1.cell gFirst j (by simpa [hInts] using hj)
  exact ⟨⟨block_lt_of_cell (hh 0 (by decide)), block_lt_of_cell (k 0 (by decide))⟩, k, hh⟩

/-- A variable's cells turned. -/
def layCells (cs : Array Value) : Obj → Obj
  | .cells _ t frozen => .cells cs t frozen
  | o => o
def hCells : Array Value := #[.int .u32 1779033703, .int .u32 3144134277, .int .u32 1013904242, .int .u32 2773480762, .int .u32 1359893119, .int .u32 2600822924, .int .u32 528734635, .int .u32 1541459225]
def kCells : Array Value := #[.int .u32 1116352408, .int .u32 1899447441, .int .u32 3049323471, .int .u32 3921009573, .int .u32 961987163, .int .u32 1508970993, .int .u32 2453635748, .int .u32 2870763221, .int .u32 3624381080, .int .u32 310598401, .int .u32 607225278, .int .u32 1426881987, .int .u32 1925078388, .int .u32 2162078206, .int .u32 2614888103, .int .u32 3248222580, .int .u32 3835390401, .int .u32 4022224774, .int .u32 264347078, .int .u32 604807628, .int .u32 770255983, .int .u32 1249150122, .int .u32 1555081692, .int .u32 1996064986, .int .u32 2554220882, .int .u32 2821834349, .int .u32 2952996808, .int .u32 3210313671, .int .u32 3336571891, .int .u32 3584528711, .int .u32 113926993, .int .u32 338241895, .int .u32 666307205, .int .u32 773529912, .int .u32 1294757372, .int .u32 1396182291, .int .u32 1695183700, .int .u32 1986661051, .int .u32 2177026350, .int .u32 2456956037, .int .u32 2730485921, .int .u32 2820302411, .int .u32 3259730800, .int .u32 3345764771, .int .u32 3516065817, .int .u32 3600352804, .int .u32 4094571909, .int .u32 275423344, .int .u32 430227734, .int .u32 506948616, .int .u32 659060556, .int .u32 883997877, .int .u32 958139571, .int .u32 1322822218, .int .u32 1537002063, .int .u32 1747873779, .int .u32 1955562222, .int .u32 2024104815, .int .u32 2227730452, .int .u32 2361852424, .int .u32 2428436474, .int .u32 2756734187, .int .u32 3204031479, .int .u32 3329325298]
/-- A world for the witness: the settled one, the two tables holding what their initialisers lay. -/
noncomputable def shaWorld (os : Os) : World :=
  { World.holding Tryd.prog os ⟨#[], #[], []⟩ with heap := ((World.holding Tryd.prog os ⟨#[], #[], []⟩).heap.modify 0 (layCells hCells)).modify 1 (layCells kCells) }
theorem addr_add (b o j : Nat) : (⟨b, o, none⟩ : Addr).add j = ⟨b, o + j, none⟩ := by unfold Addr.add; split <;> simp_all

end Go.Proofs.YtjoefhdclghgaaaDoor
