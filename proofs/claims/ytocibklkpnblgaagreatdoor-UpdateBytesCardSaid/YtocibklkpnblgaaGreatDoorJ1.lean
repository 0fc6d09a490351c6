/-
  WHAT A READER's Digests AND Sig ANSWER.
-/
/-
  THE LIBRARY'S CONTRACTS THAT THIS SEAT'S PROOFS USE, AT ITS OWN NUMBERS: strings.Builder, strings.Clone.
-/
/-
  THE LIBRARY'S CONTRACT OF strings.Builder's WriteString AT THIS SEAT'S NUMBERS; a builder behind calls that leave it.
-/
/-
  THE LIBRARY'S CONTRACTS OF strings.Builder AT THIS SEAT'S NUMBERS: Grow of a new one (WriteString: ShelfW; String: ShelfB).
-/
/-
  WHAT wire's Digest AND Digests RETURN.
-/
/-
  A REGION THAT DRAWS ITS ORDER: quiet operations first (reads; calls that lay memory and turn none), then a tail whose order is forced (a store): one walk in the text's order, the worlds of the quiet part a class. Over whatever program.
-/
/-
  WHAT wire's Sig RETURNS.
-/
/-
  A PART OF A ROW LOADED INSIDE A REGION THAT DRAWS ITS ORDER, as a step of the quiet walk. Over whatever program.
-/
/-
  WHAT package update's Bytes AND StopBytes RETURN.
-/
/-
  WHAT A READER's Sig ANSWERS.
-/
/-
  WHAT wire's Reader.Sig RETURNS, ITS LISTS IN NEW BLOCKS.
-/
/-
  WHAT IS READ WOULD BE WRITTEN SO; WHAT IS WRITTEN IS READ AS IT WAS: the lists alone.
-/
import Derived.Test.YtocibklkpnblgaaGreatDoorJ0
import Derived.Shelf.Strings.BuilderK
import Derived.Shelf.Strings.BuilderRune
import Derived.Shelf.Strconv.Clone
import Derived.Test.YtocibklkpnblgaaGreatDoorProg
import Derived.WalkKit
import Derived.Shelf.Strings.Builder2
import Derived.Deep.MidRow
import Derived.Deep.Quiet
import Derived.StillTail
import Derived.Below
import Derived.Lib.QuietBelow
import Derived.Deep.QuietTactic
import Derived.BigQuiet
import Derived.Laws.StructEq
namespace Go.Proofs.YtocibklkpnblgaaGreatDoor
open Go.RowKit
set_option linter.unusedSimpArgs false
set_option linter.unusedVariables false

/-- A list of digests in memory: their bytes. -/
def Digs (w : World) (v : Value) (l : List UInt8) : Prop :=
  ∃ p n cap, v = .slice p n cap ∧ l.length = 32 * n ∧ (0 < n → ∃ b off, p = some ⟨b, off, none⟩ ∧ b < w.heap.size ∧ Bytes w b off l)
theorem Digs.below {w w' : World} {v : Value} {l : List UInt8} (h : Digs w v l) (hb : Below w.heap.size w w') : Digs w' v l := by
  obtain ⟨p, n, cap, rfl, hl, hp⟩ := h
  refine ⟨p, n, cap, rfl, hl, fun hn => ?_⟩
  obtain ⟨b, off, rfl, hlt, hby⟩ := hp hn
  exact ⟨b, off, rfl, Nat.lt_of_lt_of_le hlt hb.size, hby.below hb hlt⟩
/-- A new row of digests. -/
theorem digs_row {w : World} {b k : Nat} {l : List UInt8} {t : TypeId} (hl : l.length = 32 * k) (h : w.heap[b]? = some (.cells (bc l) t (0, 0))) : Digs w (.slice (some ⟨b, 0, none⟩) k k) l :=
  ⟨_, _, _, rfl, hl, fun _ => ⟨b, 0, rfl, (Array.getElem?_eq_some_iff.1 h).1, fun j hj => by rw [Nat.zero_add, cell_of_row _ _ _ _ _ _ h]; exact bc_at _ _ hj⟩⟩

theorem Rd.take_whole (r : Rd) (n : Nat) : (r.take n).1.length = 0 ∨ (r.take n).1.length = n := by
  unfold Rd.take
  split
  · simp
  · split
    · simp
    · simp; omega
/-- Digests of at most so many: their bytes. -/
def Rd.digests (r : Rd) (most : Int) : List UInt8 × Rd := (r.len most).2.take (32 * (r.len most).1)
theorem Rd.digests_rest (r : Rd) (most : Int) : (r.digests most).2.rest.length ≤ r.rest.length := Nat.le_trans (Rd.take_rest _ _) (r.len_rest most)
theorem rdigests_calls (g : Nat) (r : Rd) (hl : r.rest.length ≤ 4611686018427387904) (most : Int) (w : World) (h : RdAt w g r) :
    Calls Tryz.prog 45 #[.pointer (some ⟨g, 0, none⟩), .int .i64 most] w fun e w' => ∃ b k, e = .returned (.slice (some ⟨b, 0, none⟩) k k) ∧ (r.digests most).1.length = 32 * k ∧ w.heap.size ≤ b ∧ w'.heap[b]? = some (.cells (bc (r.digests most).1) 24 (0, 0)) ∧ RdAt w' g (r.digests most).2 ∧ Turned g w w' := by
  have hm := r.len_lt most
  have hrs := r.len_rest most
  obtain ⟨k, hk, hkm⟩ : ∃ k, (r.digests most).1.length = 32 * k ∧ k ≤ (r.len most).1 := by
    rcases Rd.take_whole (r.len most).2 (32 * (r.len most).1) with h0 | h0
    · exact ⟨0, h0, Nat.zero_le _⟩
    · exact ⟨(r.len most).1, h0, Nat.le_refl _⟩
  refine (rdigests_of _ most (r.len most).1 k hm (r.digests most).1 hk hkm (fun w1 => RdAt w1 g (r.len most).2 ∧ Turned g w w1) (fun w2 => RdAt w2 g (r.digests most).2 ∧ Turned g w w2) w (rlength_calls g r hl most w h) (fun w1 h1 => ?_)).mono ?_
  · refine (take_calls g (32 * (r.len most).1) (by omega) (r.len most).2 (by omega) w1 h1.1).mono ?_
    rintro e w2 ⟨rfl, h2, t2⟩
    exact ⟨rfl, h2, h1.2.trans t2⟩
  · rintro e w' ⟨w2, rfl, ⟨h2, t2⟩, hb, hrow⟩
    exact ⟨w2.heap.size, k, rfl, hk, t2.below.size, hrow, h2.below hb, t2.trans (Turned.of_below hb (Nat.le_of_lt h2.lt))⟩
theorem rdigests_nil (most : Int) (w : World) :
    Calls Tryz.prog 45 #[.pointer none, .int .i64 most] w fun e w' => ∃ b, e = .returned (.slice (some ⟨b, 0, none⟩) 0 0) ∧ Below w.heap.size w w' := by
  refine (rdigests_of _ most 0 0 (by decide) [] rfl (Nat.le_refl _) (fun w1 => Below w.heap.size w w1) (fun w2 => Below w.heap.size w w2) w (rlength_nil most w) (fun w1 h1 => ?_)).mono ?_
  · refine (take_nil 0 (by decide) w1).mono ?_
    rintro e w2 ⟨rfl, rfl⟩
    exact ⟨rfl, h1⟩
  · rintro e w' ⟨w2, rfl, h2, hb, hrow⟩
    exact ⟨w2.heap.size, rfl, h2.trans (hb.mono h2.size)⟩

/-- A signature's cells. -/
def sigCells (i : Int) (a b c : Value) : Array Value := #[.int .i64 i, a, b, c]
def sig0 : Array Value := #[.int .i64 0, .slice none 0 0, .slice none 0 0, .slice none 0 0]
theorem sig_cell {w : World} {G : Nat} {cs : Array Value} {t : TypeId} (h : w.heap[G]? = some (.cells cs t (0, 0))) : (∀ j v, cs[j]? = some v → w.cell? ⟨G, j, none⟩ = some v) ∧ (∀ j, w.frozen? ⟨G, j, none⟩ = false) :=
  ⟨fun j v hv => (cell_of_row _ _ _ _ _ _ h).trans hv, fun j => frozen_of_row _ _ _ _ _ h⟩
theorem set4 (w : World) (g : Nat) (t : TypeId) (z0 z1 z2 z3 v0 v1 v2 v3 : Value) (hg : w.heap[g]? = some (.cells #[z0, z1, z2, z3] t (0, 0))) : ((((w.setCell ⟨g, 0, none⟩ v0).setCell ⟨g, 1, none⟩ v1).setCell ⟨g, 2, none⟩ v2).setCell ⟨g, 3, none⟩ v3).heap[g]? = some (.cells #[v0, v1, v2, v3] t (0, 0)) := by
  have h0 : (w.setCell ⟨g, 0, none⟩ v0).heap[g]? = some (.cells #[v0, z1, z2, z3] t (0, 0)) := heap_setCell_same _ g 0 _ t v0 hg
  have h1 : ((w.setCell ⟨g, 0, none⟩ v0).setCell ⟨g, 1, none⟩ v1).heap[g]? = some (.cells #[v0, v1, z2, z3] t (0, 0)) := heap_setCell_same _ g 1 _ t v1 h0
  have h2 : (((w.setCell ⟨g, 0, none⟩ v0).setCell ⟨g, 1, none⟩ v1).setCell ⟨g, 2, none⟩ v2).heap[g]? = some (.cells #[v0, v1, v2, z3] t (0, 0)) := heap_setCell_same _ g 2 _ t v2 h1
  exact heap_setCell_same _ g 3 _ t v3 h2
set_option maxHeartbeats 1000000 in
set_option maxRecDepth 100000 in
theorem rsig_nil (w : World) :
    Calls Tryz.prog 23 #[.pointer none] w fun e w' => e = .returned (.agg sig0) ∧ Below w.heap.size w w' := by
  have hi : (Tryz.prog.info? 27).map (·.size) = some sig0.size := by kernel_rfl
  go_enter Tryz.func23, Tryz.ntmps23
  go_wp2_with fail
  have q0 := al1 w (.cells sig0 27)
  have b0 := (Below.refl w.heap.size w).alloc (Nat.le_refl _) (.cells sig0 27)
  have z0 : (w.alloc (.cells sig0 27)).heap.size = w.heap.size + 1 := by simp
  refine (rword_nil (w.alloc (.cells sig0 27))).mono ?_
  generalize w.alloc (.cells sig0 27) = W0 at *
  rintro e w1 ⟨rfl, hb1⟩
  have q1 := Below.at hb1 (by omega) q0
  have b1 : Below w.heap.size w w1 := b0.trans (hb1.mono (by omega))
  have z1 := hb1.size
  clear q0 b0 hb1
  go_wp2_with fail
  have g2 := al1 w1 (.cells sig0 27)
  have q2 := (Below.heap_alloc w1 (.cells sig0 27) w.heap.size (by omega)).trans q1
  have b2 := b1.alloc (by omega) (.cells sig0 27)
  have z2 : (w1.alloc (.cells sig0 27)).heap.size = w1.heap.size + 1 := by simp
  refine (rdigests_nil 32 (w1.alloc (.cells sig0 27))).mono ?_
  generalize w1.alloc (.cells sig0 27) = W2 at *
  generalize hG : w1.heap.size = G at *
  rintro e w3 ⟨x1, rfl, hb3⟩
  have g3 := Below.at hb3 (by omega) g2
  have q3 := Below.at hb3 (by omega) q2
  have b3 : Below w.heap.size w w3 := b2.trans (hb3.mono (by omega))
  have z3 := hb3.size
  have c3 := (sig_cell g3).1 1 _ rfl
  have f3 := (sig_cell g3).2 1
  have hGw : w.heap.size < G := by omega
  clear g2 q1 q2 b1 b2 hb3
  go_wp2_with fail
  have g4 := heap_setCell_same w3 G 1 _ _ (.slice (some ⟨x1, 0, none⟩) 0 0) g3
  have q4 := (heap_setCell_other w3 ⟨G, 1, none⟩ w.heap.size (.slice (some ⟨x1, 0, none⟩) 0 0) (by show _ ≠ G; omega)).trans q3
  have b4 := b3.setCell (p := ⟨G, 1, none⟩) (by show _ ≤ G; omega) (.slice (some ⟨x1, 0, none⟩) 0 0)
  have z4 : (w3.setCell ⟨G, 1, none⟩ (.slice (some ⟨x1, 0, none⟩) 0 0)).heap.size = w3.heap.size := World.size_setCell _ _ _
  refine (rdigests_nil 32 (w3.setCell ⟨G, 1, none⟩ (.slice (some ⟨x1, 0, none⟩) 0 0))).mono ?_
  generalize w3.setCell ⟨G, 1, none⟩ (.slice (some ⟨x1, 0, none⟩) 0 0) = W4 at *
  rintro e w5 ⟨x2, rfl, hb5⟩
  have g5 := Below.at hb5 (by omega) g4
  have q5 := Below.at hb5 (by omega) q4
  have b5 : Below w.heap.size w w5 := b4.trans (hb5.mono (by omega))
  have z5 := hb5.size
  have c5 := (sig_cell g5).1 2 _ rfl
  have f5 := (sig_cell g5).2 2
  clear g3 g4 q3 q4 b3 b4 hb5 c3 f3
  go_wp2_with fail
  have g6 := heap_setCell_same w5 G 2 _ _ (.slice (some ⟨x2, 0, none⟩) 0 0) g5
  have q6 := (heap_setCell_other w5 ⟨G, 2, none⟩ w.heap.size (.slice (some ⟨x2, 0, none⟩) 0 0) (by show _ ≠ G; omega)).trans q5
  have b6 := b5.setCell (p := ⟨G, 2, none⟩) (by show _ ≤ G; omega) (.slice (some ⟨x2, 0, none⟩) 0 0)
  have z6 : (w5.setCell ⟨G, 2, none⟩ (.slice (some ⟨x2, 0, none⟩) 0 0)).heap.size = w5.heap.size := World.size_setCell _ _ _
  refine (rdigests_nil 32 (w5.setCell ⟨G, 2, none⟩ (.slice (some ⟨x2, 0, none⟩) 0 0))).mono ?_
  generalize w5.setCell ⟨G, 2, none⟩ (.slice (some ⟨x2, 0, none⟩) 0 0) = W6 at *
  rintro e w7 ⟨x3, rfl, hb7⟩
  have g7 := Below.at hb7 (by omega) g6
  have q7 := Below.at hb7 (by omega) q6
  have b7 : Below w.heap.size w w7 := b6.trans (hb7.mono (by omega))
  have z7 := hb7.size
  have c7 := (sig_cell g7).1 3 _ rfl
  have f7 := (sig_cell g7).2 3
  clear g5 g6 q5 q6 b5 b6 hb7 c5 f5
  go_wp2_with fail
  have q8 := (heap_setCell_other w7 ⟨G, 3, none⟩ w.heap.size (.slice (some ⟨x3, 0, none⟩) 0 0) (by show _ ≠ G; omega)).trans q7
  have b8 := b7.setCell (p := ⟨G, 3, none⟩) (by show _ ≤ G; omega) (.slice (some ⟨x3, 0, none⟩) 0 0)
  refine (failed_nil (w7.setCell ⟨G, 3, none⟩ (.slice (some ⟨x3, 0, none⟩) 0 0))).mono ?_
  generalize w7.setCell ⟨G, 3, none⟩ (.slice (some ⟨x3, 0, none⟩) 0 0) = W8 at *
  rintro e w9 ⟨rfl, rfl⟩
  clear g7 q7 b7 c7 f7
  have c80 := (sig_cell q8).1 0 _ rfl
  have c81 := (sig_cell q8).1 1 _ rfl
  have c82 := (sig_cell q8).1 2 _ rfl
  have c83 := (sig_cell q8).1 3 _ rfl
  have f8 := (sig_cell q8).2
  have Q8 := hide q8
  clear q8
  go_wp2
  exact bodyPost_ret (results_cell_row rfl _ _ w.heap.size _ _ _ _ rfl (set4 _ _ _ _ _ _ _ _ _ _ _ (unhide Q8)) Tryz.underlying27 rfl hi) rfl ⟨rfl, (((b8.setCell (by simp) _).setCell (by simp) _).setCell (by simp) _).setCell (by simp) _⟩
end Go.Proofs.YtocibklkpnblgaaGreatDoor

namespace Go.Proofs
open Go.Shelf
def Tryz.lays316_ren : Go.Shelf.Ren := ⟨fun | 316 => 89 | n => n, fun | 0 => 0 | 3 => 3 | 4 => 4 | 5 => 5 | 9 => 9 | 37 => 82 | 127 => 125 | n => n, fun | n => n⟩
theorem Tryz.lays316 : Go.Proofs.LaysM.n316 Tryz.prog Tryz.lays316_ren := {
  mixed := by kernel_rfl
  f316 := Tryz.func89.trans (congrArg some (by kernel_rfl))
  t0 := Tryz.underlying0
  a0 := Tryz.isAgg0
  z0 := Tryz.sizeOf0
  v0 := Tryz.zeroValue0
  t3 := Tryz.underlying3
  a3 := Tryz.isAgg3
  z3 := Tryz.sizeOf3
  v3 := Tryz.zeroValue3
  t4 := Tryz.underlying4
  a4 := Tryz.isAgg4
  z4 := Tryz.sizeOf4
  v4 := Tryz.zeroValue4
  t9 := Tryz.underlying9
  a9 := Tryz.isAgg9
  z9 := Tryz.sizeOf9
  v9 := Tryz.zeroValue9
  t37 := Tryz.underlying82
  a37 := Tryz.isAgg82
  z37 := Tryz.sizeOf82
  v37 := Tryz.zeroValue82
  t127 := Tryz.underlying125
  a127 := Tryz.isAgg125
  z127 := Tryz.sizeOf125
  v127 := Tryz.zeroValue125
  t5 := Tryz.underlying5
  a5 := Tryz.isAgg5
  z5 := Tryz.sizeOf5
  v5 := Tryz.zeroValue5
  i0 := by kernel_rfl
  i3 := by kernel_rfl
  i4 := by kernel_rfl
  i5 := by kernel_rfl
  i9 := by kernel_rfl
  i37 := by kernel_rfl
  i127 := by kernel_rfl }
def Tryz.lays169_ren : Go.Shelf.Ren := ⟨fun | 169 => 69 | n => n, fun | 0 => 0 | 3 => 3 | 5 => 5 | 9 => 9 | 37 => 82 | 70 => 108 | 72 => 110 | 127 => 125 | n => n, fun | n => n⟩
theorem Tryz.lays169 : Go.Proofs.Lays.n169 Tryz.prog Tryz.lays169_ren := {
  mixed := by kernel_rfl
  f169 := Tryz.func69.trans (congrArg some (by kernel_rfl))
  t0 := Tryz.underlying0
  a0 := Tryz.isAgg0
  z0 := Tryz.sizeOf0
  v0 := Tryz.zeroValue0
  t3 := Tryz.underlying3
  a3 := Tryz.isAgg3
  z3 := Tryz.sizeOf3
  v3 := Tryz.zeroValue3
  t9 := Tryz.underlying9
  a9 := Tryz.isAgg9
  z9 := Tryz.sizeOf9
  v9 := Tryz.zeroValue9
  t37 := Tryz.underlying82
  a37 := Tryz.isAgg82
  z37 := Tryz.sizeOf82
  v37 := Tryz.zeroValue82
  t70 := Tryz.underlying108
  a70 := Tryz.isAgg108
  z70 := Tryz.sizeOf108
  v70 := Tryz.zeroValue108
  t72 := Tryz.underlying110
  a72 := Tryz.isAgg110
  z72 := Tryz.sizeOf110
  v72 := Tryz.zeroValue110
  t127 := Tryz.underlying125
  a127 := Tryz.isAgg125
  z127 := Tryz.sizeOf125
  v127 := Tryz.zeroValue125 }
theorem Tryz.Builder_Extra_169 : Builder.Extra Tryz.prog Tryz.lays169_ren := {
  sizeBuilder := by kernel_rfl
  liesBuilder := by kernel_rfl
  t5 := Tryz.underlying5
  a5 := Tryz.isAgg5
  z5 := Tryz.sizeOf5
  v5 := Tryz.zeroValue5
  infoByte := by kernel_rfl
  cellsByte := by kernel_rfl
  sizeByte := by kernel_rfl
  neB5 := by decide }
namespace YtocibklkpnblgaaGreatDoor
open Go.RowKit
theorem clone_inner (s : ByteArray) (w : World) (h : s.size ≤ 281474976710656) : Calls Tryz.prog 89 #[.string s] w fun e w' => e = .returned (.string s) ∧ Below w.heap.size w w' :=
  Any.stringslite_Clone Tryz.lays316 s w h
set_option maxHeartbeats 400000 in
theorem clone_calls (s : ByteArray) (w : World) (h : s.size ≤ 281474976710656) : Calls Tryz.prog 86 #[.string s] w fun e w' => e = .returned (.string s) ∧ Below w.heap.size w w' := by
  go_enter Tryz.func86, Tryz.ntmps86
  go_wp2_with (go_at_call 89; refine (clone_inner _ _ h).mono ?_; rintro e w' ⟨rfl, hb⟩)
  go_ret
  exact ⟨rfl, hb⟩
theorem string_calls (B b : Nat) (l : List UInt8) (w : World) (h : Lib.IsBuilderF 110 5 B b (Lib.byteCells l) w) (hBw : B ≤ w.heap.size) :
    Calls Tryz.prog 69 #[.pointer (some ⟨b, 0, none⟩)] w fun e w' => e = .returned (.string ⟨l.toArray⟩) ∧ (Lib.IsBuilderF 110 5 B b (Lib.byteCells l) w' ∧ Below B w w' ∧ Lib.OthersKept 5 (some b) w w') :=
  Any.Builder_String_any_k Tryz.lays169 Tryz.Builder_Extra_169 B b l w h hBw
end YtocibklkpnblgaaGreatDoor
end Go.Proofs

namespace Go.Proofs
open Go.Shelf
def Tryz.lays166_ren : Go.Shelf.Ren := ⟨fun | 166 => 68 | 240 => 77 | 276 => 83 | n => n, fun | 0 => 0 | 3 => 3 | 4 => 4 | 5 => 5 | 9 => 9 | 20 => 20 | 37 => 82 | 70 => 108 | 72 => 110 | 75 => 112 | 80 => 115 | 164 => 137 | n => n, fun | n => n⟩
theorem Tryz.lays166 : Go.Proofs.Lays.n166 Tryz.prog Tryz.lays166_ren := {
  mixed := by kernel_rfl
  f166 := Tryz.func68.trans (congrArg some (by kernel_rfl))
  f240 := Tryz.func77.trans (congrArg some (by kernel_rfl))
  f276 := Tryz.func83.trans (congrArg some (by kernel_rfl))
  t0 := Tryz.underlying0
  a0 := Tryz.isAgg0
  z0 := Tryz.sizeOf0
  v0 := Tryz.zeroValue0
  t3 := Tryz.underlying3
  a3 := Tryz.isAgg3
  z3 := Tryz.sizeOf3
  v3 := Tryz.zeroValue3
  t4 := Tryz.underlying4
  a4 := Tryz.isAgg4
  z4 := Tryz.sizeOf4
  v4 := Tryz.zeroValue4
  t9 := Tryz.underlying9
  a9 := Tryz.isAgg9
  z9 := Tryz.sizeOf9
  v9 := Tryz.zeroValue9
  t20 := Tryz.underlying20
  a20 := Tryz.isAgg20
  z20 := Tryz.sizeOf20
  v20 := Tryz.zeroValue20
  t37 := Tryz.underlying82
  a37 := Tryz.isAgg82
  z37 := Tryz.sizeOf82
  v37 := Tryz.zeroValue82
  t70 := Tryz.underlying108
  a70 := Tryz.isAgg108
  z70 := Tryz.sizeOf108
  v70 := Tryz.zeroValue108
  t72 := Tryz.underlying110
  a72 := Tryz.isAgg110
  z72 := Tryz.sizeOf110
  v72 := Tryz.zeroValue110
  t75 := Tryz.underlying112
  a75 := Tryz.isAgg112
  z75 := Tryz.sizeOf112
  v75 := Tryz.zeroValue112
  t164 := Tryz.underlying137
  a164 := Tryz.isAgg137
  z164 := Tryz.sizeOf137
  v164 := Tryz.zeroValue137 }
theorem Tryz.Builder_Extra_166 : Builder.Extra Tryz.prog Tryz.lays166_ren := {
  sizeBuilder := by kernel_rfl
  liesBuilder := by kernel_rfl
  t5 := Tryz.underlying5
  a5 := Tryz.isAgg5
  z5 := Tryz.sizeOf5
  v5 := Tryz.zeroValue5
  infoByte := by kernel_rfl
  cellsByte := by kernel_rfl
  sizeByte := by kernel_rfl
  neB5 := by decide }
namespace YtocibklkpnblgaaGreatDoor
open Go.RowKit
theorem writeString_calls (B b : Nat) (bs : List Value) (s : ByteArray) (w : World) (h : Lib.IsBuilderF 110 5 B b bs w) (hlen : bs.length + s.size ≤ 140737488355328) (hBw : B ≤ w.heap.size) :
    Calls Tryz.prog 68 #[.pointer (some ⟨b, 0, none⟩), .string s] w fun e w' => e = .returned (.tuple #[.int .i64 s.size, .nilIface]) ∧ (Lib.BuilderAtF 110 5 B b (.pointer (some ⟨b, 0, none⟩)) (bs ++ Lib.strCells s) w' ∧ Below B w w' ∧ Lib.OthersKept 5 (some b) w w') :=
  Any.Builder_WriteString_k Tryz.lays166 Tryz.Builder_Extra_166 B b bs s w h hlen hBw
theorem builder_below {T e : TypeId} {B b : Nat} {p : Value} {bs : List Value} {w w' : World} (h : Lib.BuilderAtF T e B b p bs w) (hb : Below w.heap.size w w') : Lib.BuilderAtF T e B b p bs w' := by
  obtain ⟨hB, v, hv, ⟨h1, h2⟩, hne⟩ := h
  have lt : ∀ k o, w.heap[k]? = some o → k < w.heap.size := fun k o ho => (Array.getElem?_eq_some_iff.1 ho).1
  refine ⟨hB, v, (hb.block b (lt _ _ hv)).trans hv, ⟨h1, ?_⟩, hne⟩
  rcases h2 with h2 | ⟨g, cap, cur, fz, rfl, hg, hh, hrest⟩
  · exact .inl h2
  · exact .inr ⟨g, cap, cur, fz, rfl, hg, (hb.block g (lt _ _ hh)).trans hh, hrest⟩
theorem isBuilder_below {T e : TypeId} {B b : Nat} {bs : List Value} {w w' : World} (h : Lib.IsBuilderF T e B b bs w) (hb : Below w.heap.size w w') : Lib.IsBuilderF T e B b bs w' :=
  h.elim (fun h => .inl (builder_below h hb)) (fun h => .inr (builder_below h hb))
end YtocibklkpnblgaaGreatDoor
end Go.Proofs

namespace Go.Proofs
open Go.Shelf
def Tryz.lays165_ren : Go.Shelf.Ren := ⟨fun | 165 => 67 | 240 => 77 | 241 => 78 | 276 => 83 | 277 => 84 | n => n, fun | 0 => 0 | 3 => 3 | 4 => 4 | 5 => 5 | 9 => 9 | 20 => 20 | 37 => 82 | 70 => 108 | 72 => 110 | 164 => 137 | n => n, fun | n => n⟩
theorem Tryz.lays165 : Go.Proofs.Lays.n165 Tryz.prog Tryz.lays165_ren := {
  mixed := by kernel_rfl
  f165 := Tryz.func67.trans (congrArg some (by kernel_rfl))
  f240 := Tryz.func77.trans (congrArg some (by kernel_rfl))
  f241 := Tryz.func78.trans (congrArg some (by kernel_rfl))
  f276 := Tryz.func83.trans (congrArg some (by kernel_rfl))
  f277 := Tryz.func84.trans (congrArg some (by kernel_rfl))
  t0 := Tryz.underlying0
  a0 := Tryz.isAgg0
  z0 := Tryz.sizeOf0
  v0 := Tryz.zeroValue0
  t3 := Tryz.underlying3
  a3 := Tryz.isAgg3
  z3 := Tryz.sizeOf3
  v3 := Tryz.zeroValue3
  t4 := Tryz.underlying4
  a4 := Tryz.isAgg4
  z4 := Tryz.sizeOf4
  v4 := Tryz.zeroValue4
  t9 := Tryz.underlying9
  a9 := Tryz.isAgg9
  z9 := Tryz.sizeOf9
  v9 := Tryz.zeroValue9
  t20 := Tryz.underlying20
  a20 := Tryz.isAgg20
  z20 := Tryz.sizeOf20
  v20 := Tryz.zeroValue20
  t37 := Tryz.underlying82
  a37 := Tryz.isAgg82
  z37 := Tryz.sizeOf82
  v37 := Tryz.zeroValue82
  t70 := Tryz.underlying108
  a70 := Tryz.isAgg108
  z70 := Tryz.sizeOf108
  v70 := Tryz.zeroValue108
  t72 := Tryz.underlying110
  a72 := Tryz.isAgg110
  z72 := Tryz.sizeOf110
  v72 := Tryz.zeroValue110
  t164 := Tryz.underlying137
  a164 := Tryz.isAgg137
  z164 := Tryz.sizeOf137
  v164 := Tryz.zeroValue137 }
theorem Tryz.Builder_Extra_165 : Builder.Extra Tryz.prog Tryz.lays165_ren := {
  sizeBuilder := by kernel_rfl
  liesBuilder := by kernel_rfl
  t5 := Tryz.underlying5
  a5 := Tryz.isAgg5
  z5 := Tryz.sizeOf5
  v5 := Tryz.zeroValue5
  infoByte := by kernel_rfl
  cellsByte := by kernel_rfl
  sizeByte := by kernel_rfl
  neB5 := by decide }
namespace YtocibklkpnblgaaGreatDoor
open Go.RowKit
theorem grow_fresh (B b n : Nat) (w : World) (hB : B ≤ b) (hbk : w.heap[b]? = some (.cells #[.pointer none, .slice none 0 0] 110 (0, 0))) (hBw : B ≤ w.heap.size) (hn : n ≤ 281474976710656) :
    Calls Tryz.prog 67 #[.pointer (some ⟨b, 0, none⟩), .int .i64 (n : Int)] w fun e w' => e = .returned (.tuple #[]) ∧ (Lib.BuilderAt 110 5 B b (.pointer (some ⟨b, 0, none⟩)) [] w' ∧ Below B w w') :=
  Any.Builder_Grow_fresh Tryz.lays165 Tryz.Builder_Extra_165 B b n w hB hbk hBw hn
end YtocibklkpnblgaaGreatDoor
end Go.Proofs

namespace Go.Proofs.YtocibklkpnblgaaGreatDoor
open Go.RowKit
set_option linter.unusedSimpArgs false
set_option linter.unusedVariables false

/-- How many, and they. -/
def pDigests (l : List UInt8) : List UInt8 := pBig (l.length / 32) 4 ++ l
set_option maxHeartbeats 1000000 in
set_option maxRecDepth 100000 in
theorem wdigests_calls (v : Value) (l : List UInt8) (hl : l.length ≤ 137438953471) (w : World) (h : Digs w v l) :
    Calls Tryz.prog 51 #[v] w fun e w' => e = .returned (.string (str (pDigests l))) ∧ Below w.heap.size w w' := by
  obtain ⟨p, n, cap, rfl, hn, hp⟩ := h
  have hdiv : l.length / 32 = n := by omega
  have hn32 : n < 4294967296 := by omega
  unfold pDigests
  rw [hdiv]
  have hlen := pBig_length n 4
  have hww := wword_calls n hn32
  generalize pBig n 4 = B at *
  have Hww := hide hww
  have Hp := hide hp
  have Hn := hide hn
  obtain ⟨s, hs, es⟩ : ∃ s : Nat, Hid (4 + 32 * n = s) ∧ IntKind.i64.wrap ((4 : Int) + IntKind.i64.wrap (32 * (n : Int))) = (s : Int) := ⟨_, rfl, by rw [wi64 (32 * (n : Int)) (by omega) (by omega), wi64 _ (by omega) (by omega)]; omega⟩
  have es2 : IntKind.i64.wrap (32 * (n : Int)) = 32 * (n : Int) := wi64 _ (by omega) (by omega)
  have es3 : (4 : Int) + 32 * (n : Int) = (s : Int) := by have := unhide hs; omega
  have hsb : s ≤ 281474976710656 := by have := unhide hs; omega
  clear hww hp hn hdiv
  go_enter Tryz.func51, Tryz.ntmps51
  go_wp2_with fail
  refine (grow_fresh w.heap.size w.heap.size s _ (Nat.le_refl _) (al1 _ _) (by simp) hsb).mono ?_
  rintro e w1 ⟨rfl, hB1, hb1⟩
  have b1 : Below w.heap.size w w1 := ((Below.refl _ w).alloc (Nat.le_refl _) _).trans hb1
  have B1 : Lib.IsBuilderF 110 5 w.heap.size w.heap.size [] w1 := Lib.IsBuilderF.of (.inr hB1)
  have hz1 : w.heap.size < w1.heap.size := (Lib.BuilderAtF.of hB1).lt
  clear hb1 hB1
  go_wp2_with fail
  refine (unhide Hww _).mono ?_
  rintro e w2 ⟨rfl, hb2⟩
  have b2 := b1.trans (hb2.mono b1.size)
  have B2 := isBuilder_below B1 hb2
  have hz2 := hb2.size
  clear b1 B1 hb2
  go_wp2_with fail
  refine (writeString_calls w.heap.size w.heap.size [] (str B) _ B2 (by rw [str_size]; simp; omega) (by omega)).mono ?_
  rintro e w3 ⟨rfl, hB3, hb3, _⟩
  have b3 := b2.trans hb3
  have B3 : Lib.IsBuilderF 110 5 w.heap.size w.heap.size (Lib.byteCells B) w3 := .inr (by
    have e4 : ([] : List Value) ++ Lib.strCells (str B) = Lib.byteCells B := by simp [Lib.strCells, Lib.byteCells, str]
    rw [e4] at hB3; exact hB3)
  have hz3 : w.heap.size < w3.heap.size := hB3.lt
  clear b2 B2 hB3 hb3 hz1 hz2
  go_wp2
  go_loopw [18] (fun i wr => ∃ j : Nat, j ≤ n ∧ i = .int .i64 (j : Int) ∧ Below w.heap.size w wr ∧ Lib.IsBuilderF 110 5 w.heap.size w.heap.size (Lib.byteCells (B ++ l.take (32 * j))) wr) (fun i _ => n - (intOf i).toNat)
  case atStart => exact ⟨0, by omega, rfl, b3, by simpa using B3⟩
  case round =>
    clear b3 B3 hz3
    obtain ⟨j, hj, rfl, hb, hB⟩ := hrel
    have hzr : w.heap.size < wr.heap.size := by
      rcases hB with hB | hB
      · exact hB.lt
      · exact hB.lt
    have hln := unhide Hn
    by_cases hlt : j < n
    · have hd : decide (j < n) = true := by simpa using hlt
      have bk : (j : Int) < (n : Int) := by omega
      obtain ⟨b, off, rfl, hbz, hby⟩ := unhide Hp (by omega)
      obtain ⟨ch, hch, hcl⟩ : ∃ ch : List UInt8, Hid ((l.drop (32 * j)).take 32 = ch) ∧ ch.length = 32 := ⟨_, rfl, by rw [List.length_take, List.length_drop]; omega⟩
      have hr : wr.rangeAt b (off + j * 32) (Lib.byteCells ch) := fun i v hv => by
        have hi : i < 32 := by
          have := (List.getElem?_eq_some_iff.1 hv).1
          rw [Lib.byteCells_length] at this; omega
        have h1 := (hby.below hb hbz) (j * 32 + i) (by omega)
        rw [show off + j * 32 + i = off + (j * 32 + i) by omega, h1]
        have h2 := bc_at ch i (by omega)
        rw [bc, List.getElem?_toArray] at h2
        rw [h2] at hv
        rw [← Option.some.inj hv, ← unhide hch]
        simp [List.getD_eq_getElem?_getD, List.getElem?_take, List.getElem?_drop, hi, Nat.mul_comm]
      have hil : (Tryz.prog.info? 24).map (·.size) = some (Lib.byteCells ch).length := by rw [Lib.byteCells_length, hcl]; kernel_rfl
      have hil2 : (Tryz.prog.info? 24).map (·.size) = some (bc ch).size := by rw [bc_size, hcl]; kernel_rfl
      have hsz2 : (bc (List.replicate 32 (0 : UInt8))).size = (bc ch).size := by rw [bc_size, bc_size, hcl]; rfl
      have ho1 := bc_oneCell ch
      have qn : (wr.alloc (.cells (bc (List.replicate 32 0)) 24)).heap[wr.heap.size]? = some (.cells (bc (List.replicate 32 0)) 24 (0, 0)) := al1 _ _
      have qs := setRow_heap _ _ _ (bc ch) _ _ qn
      clear hln hby hbz
      go_wp2_with (first
        | (refine wpList_load_mid rfl 24 (.tmp 20) rfl b (off + j * 32) rfl (Lib.byteCells ch) _ hr Tryz.underlying24 rfl hil ?_)
        | (refine wpList_store_row rfl 24 (.tmp 5) (.tmp 21) rfl wr.heap.size _ rfl rfl 24 _ qn hil2 hsz2 ho1 ?_)
        | (refine wpList_load_row rfl 24 (.tmp 5) rfl wr.heap.size rfl 24 _ (0, 0) _ qs Tryz.underlying24 rfl hil2 ?_))
      have hbA : Below wr.heap.size wr ((wr.alloc (.cells (bc (List.replicate 32 0)) 24)).setRow wr.heap.size (Lib.byteCells ch).toArray) := below_setRow ((Below.refl _ wr).alloc (Nat.le_refl _) _) (Nat.le_refl _) _
      refine (wdigest_calls ch hcl ((wr.alloc (.cells (bc (List.replicate 32 0)) 24)).setRow wr.heap.size (Lib.byteCells ch).toArray)).mono ?_
      generalize (wr.alloc (.cells (bc (List.replicate 32 0)) 24)).setRow wr.heap.size (Lib.byteCells ch).toArray = W at *
      rintro e w5 ⟨rfl, hb5⟩
      have hb6 : Below wr.heap.size wr w5 := hbA.trans (hb5.mono hbA.size)
      have B6 := isBuilder_below hB hb6
      have hz6 := hb6.size
      clear hbA hb5 hr hil hil2 hsz2 ho1 qn qs hB
      go_wp2_with fail
      refine (writeString_calls w.heap.size w.heap.size _ (str ch) _ B6 (by rw [str_size, Lib.byteCells_length, List.length_append, List.length_take]; omega) (by omega)).mono ?_
      rintro e w7 ⟨rfl, hB7, hb7, _⟩
      have e4 : Lib.byteCells (B ++ l.take (32 * j)) ++ Lib.strCells (str ch) = Lib.byteCells (B ++ l.take (32 * (j + 1))) := by
        rw [show Lib.strCells (str ch) = Lib.byteCells ch by simp [Lib.strCells, Lib.byteCells, str], ← Lib.byteCells_append, List.append_assoc, ← unhide hch, ← List.take_add, show 32 * (j + 1) = 32 * j + 32 by omega]
      rw [e4] at hB7
      clear e4 B6
      go_wp2
      go_roundw
      case rel => exact ⟨j + 1, by omega, by go_num, (hb.trans (hb6.mono (by omega))).trans hb7, .inr hB7⟩
      case measure => simp [intOf]; omega
    · have hd : decide (j < n) = false := by simpa using hlt
      have ht : l.take (32 * j) = l := List.take_of_length_le (by omega)
      rw [ht] at hB
      clear ht hln
      go_wp2_with fail
      refine (string_calls w.heap.size w.heap.size _ _ hB (by omega)).mono ?_
      rintro e w5 ⟨rfl, _, hb5, _⟩
      go_wp2
      go_ret
      exact ⟨rfl, hb.trans hb5⟩
end Go.Proofs.YtocibklkpnblgaaGreatDoor

namespace Go.Proofs.YtocibklkpnblgaaGreatDoor
open Go Go.RowKit
section
variable {P : Program} {ops : Array Oper} {md : Region.Mode} {C : World → Prop}

/-- Whatever order is picked, for so many steps: each step is one of the first n, and quiet; then L. -/
def headQ (P : Program) (md : Region.Mode) (ops : Array Oper) (C : World → Prop) (n : Nat) (L : Array Bool → Act → Prop) : Nat → Array Bool → Act → Prop
  | 0, listed, a => L listed a
  | f + 1, listed, a => Region.ready md ops listed ≠ [] ∧ ∀ i ∈ Region.ready md ops listed, i < n ∧ qOp P ops C i (headQ P md ops C n L f (listed.setIfInBounds i true)) a

theorem any_of_headQ {n g : Nat} {L : Array Bool → Act → Prop} {Q : Exit → Act → World → Prop} (hL : ∀ listed a w, C w → L listed a → wpAny P md ops Q g listed a w) (f : Nat) :
    ∀ (listed : Array Bool) (a : Act) (w : World), C w → headQ P md ops C n L f listed a → wpAny P md ops Q (f + g) listed a w := by
  induction f with
  | zero => intro listed a w hw h; rw [Nat.zero_add]; exact hL _ _ _ hw h
  | succ f ih =>
    intro listed a w hw h
    rw [show f + 1 + g = (f + g) + 1 by omega]
    exact ⟨fun h0 => absurd h0 h.1, fun i hi => wpOp_of_qOp hw (fun a' w' hw' h' => ih _ a' w' hw' h') (h.2 i hi).2⟩

/-- One that may come up, yields its value in every world of the class, and is apart from all that does not wait for it, may be taken first. -/
theorem headQ_first {n i : Nat} {oi : Oper} {v : Value} {L : Array Bool → Act → Prop} (hi : ops[i]? = some oi) (hsel : ∀ (j : Nat) (o : Oper) cs b, ops[j]? = some o → o.op ≠ .select cs b)
    (hs : Region.sinkB md ops n = true) (hc : Region.chainB md ops n = true) (hn : n < ops.size) (hin : i < n)
    (hend : ∀ listed a, L listed a → ∀ j ∈ Region.ready md ops listed, n ≤ j) (f : Nat) :
    ∀ (listed : Array Bool) (a : Act), HeadInv md ops n listed →
      (∀ j oj, ops[j]? = some oj → j ≠ i → listed.getD j true = false → (∀ e ∈ oj.after, Region.binds md e = true → e.on ≠ i) → oi.apart ops oj = true) →
      i ∈ Region.ready md ops listed → YieldsIn P ops C oi v a →
      headQ P md ops C n L f (listed.setIfInBounds i true) (a.put oi.dst v) → headQ P md ops C n L (f + 1) listed a := by
  induction f with
  | zero =>
    intro listed a inv _ hr hy H
    refine ⟨fun h => (by rw [h] at hr; cases hr), fun j hj => ?_⟩
    have hjn : j < n := Nat.lt_of_not_le fun h => tail_waits hs hc hn inv _ i rfl hin (mem_ready.1 hr).1 j h hj
    refine ⟨hjn, ?_⟩
    by_cases e : j = i
    · subst e; exact hy.qOp hi H
    · exact absurd (hend _ _ H j (ready_mono hj e)) (by omega)
  | succ f ih =>
    intro listed a inv apart hr hy H
    refine ⟨fun h => (by rw [h] at hr; cases hr), fun j hj => ?_⟩
    have hjn : j < n := Nat.lt_of_not_le fun h => tail_waits hs hc hn inv _ i rfl hin (mem_ready.1 hr).1 j h hj
    refine ⟨hjn, ?_⟩
    by_cases e : j = i
    · subst e; exact hy.qOp hi H
    · obtain ⟨hun, oj, hoj, hall⟩ := mem_ready.1 hj
      have free : ∀ e ∈ oj.after, Region.binds md e = true → e.on ≠ i := fun e he hb heq => by
        have h1 := hall e he hb
        rw [heq, getD_both (mem_ready.1 hr).1] at h1
        cases h1
      have step := qOp_put hoj (apart j oj hoj e hun free) (fun cs b => hsel i oi cs b hi) (fun cs b => hsel j oj cs b hoj) hy (H.2 j (ready_mono hj e)).2
      refine qOp_mono (fun a' h3 => ih (listed.setIfInBounds j true) a' (inv.set hj hjn) (fun k ok hk hki hk2 hno => apart k ok hk hki ?_ hno) (ready_mono hr (Ne.symm e)) h3.1 ?_) step
      · by_cases hjk : j = k
        · subst hjk; exact hun
        · rw [getD_set_ne true hjk] at hk2; exact hk2
      · rw [Array.setIfInBounds_comm _ _ e]; exact h3.2

/-- The text's order serves every order. -/
theorem headQ_lex {n g : Nat} {R : Act → Prop} (hsel : Region.noSelect ops = true) (hs : Region.sinkB md ops n = true) (hc : Region.chainB md ops n = true) (hn : n < ops.size) :
    ∀ (l : List Oper) (k : Nat) (listed : Array Bool) (a : Act), (∀ j, j < l.length → l[j]? = ops[k + j]?) → k + l.length = n → HeadInv md ops n listed →
    Region.lexHead md ops g l.length k listed = true → wpQuiet P ops C R l a →
    headQ P md ops C n (fun listed' a' => Region.seqB md ops g n listed' = true ∧ R a') l.length listed a
  | [], k, listed, a, _, hk, _, hB, h => by
    obtain rfl : k = n := by simpa using hk
    exact ⟨by simpa [Region.lexHead] using hB, h⟩
  | o :: l, k, listed, a, hl, hk, inv, hB, h => by
    have h0 : ops[k]? = some o := by simpa using (hl 0 (by simp)).symm
    simp only [List.length_cons, Region.lexHead, Bool.and_eq_true] at hB
    obtain ⟨⟨hr, hf⟩, hB'⟩ := hB
    have hkn : k < n := by simp only [List.length_cons] at hk; omega
    have hr' : k ∈ Region.ready md ops listed := by simpa using hr
    obtain ⟨v, hy, hK⟩ := yieldsIn_of_qOp (C := C) (K := wpQuiet P ops C R l) h0 (by unfold qOp; simp only [h0]; exact h)
    refine headQ_first h0 (Region.noSelect_spec hsel) hs hc hn hkn (fun _ _ hL => seqB_ready hL.1) l.length listed a inv (Region.free_spec h0 hf) hr' hy ?_
    exact headQ_lex hsel hs hc hn l (k + 1) _ _ (fun j hj => by have := hl (j + 1) (by simp; omega); simpa [Nat.add_assoc, Nat.add_comm 1 j] using this) (by simp only [List.length_cons] at hk; omega) (inv.set hr' hkn) hB' hK

/-- A REGION THAT DRAWS: the first n operations quiet in a class of worlds, walked in the text's order; what is left in its forced order, from whatever world of the class. -/
theorem wp_region_quiet_tail {id : Nat} {Q : Exit → Act → World → Prop} {a : Act} {w : World} {l : List Oper} (n : Nat) (hm : P.follows .mixedOrders = true) (hB : Region.lexTailB .any l.toArray n = true)
    (hC : C { w with drawn := w.drawn + 1 }) (h : wpQuiet P l.toArray C (fun a' => ∀ w', C w' → wpList P l.toArray Q (l.drop n) a' w') (l.take n) a) : (Code.region id l.toArray true).wp P Q a w := by
  simp only [Region.lexTailB, Bool.and_eq_true, decide_eq_true_eq] at hB
  obtain ⟨⟨⟨⟨hsel, hn⟩, hs⟩, hc⟩, hlex⟩ := hB
  have hn' : n < l.length := by simpa using hn
  have htl : (l.take n).length = n := by simp; omega
  have hdl : (l.drop n).length = l.toArray.size - n := by simp
  have inv : HeadInv .any l.toArray n (Array.replicate l.toArray.size false) :=
    ⟨by simp, fun j oj _ hl => (by rw [getD_replicate_false] at hl; cases hl), fun t _ ht => getD_in (by simpa using ht) (getD_replicate_false _ _)⟩
  have H := headQ_lex (C := C) (md := .any) (g := l.toArray.size - n) hsel hs hc hn (l.take n) 0 _ a (fun j hj => by
    have hj' : j < n := by rw [htl] at hj; exact hj
    simp [hj']) (by simpa using htl) inv (by rw [htl]; exact hlex) h
  refine wp_region_any hm ?_
  have fin := any_of_headQ (Q := Q) (g := l.toArray.size - n) (fun listed a' w' hw' hL => by
    have := wpAny_of_seq (md := .any) (Q' := Q) (l.drop n) n listed a' w' (fun j => by simp [List.getElem?_drop]) (by rw [hdl]; exact hL.1) (hL.2 w' hw')
    rwa [hdl] at this) _ _ _ _ hC H
  rw [htl, show n + (l.toArray.size - n) = l.toArray.size by omega] at fin
  exact fin
end

/-- The class of the worlds in which all that lay there lies as it lay. -/
theorem wp_region_below_tail {P : Program} {id : Nat} {Q : Exit → Act → World → Prop} {a : Act} {w : World} {l : List Oper} (n : Nat) (hm : P.follows .mixedOrders = true) (hB : Region.lexTailB .any l.toArray n = true)
    (h : wpQuiet P l.toArray (fun w' => ∃ p : Regrown, w' = Sort.grow (redrawn w p.d) p.os) (fun a' => ∀ w', Below w.heap.size w w' → wpList P l.toArray Q (l.drop n) a' w') (l.take n) a) : (Code.region id l.toArray true).wp P Q a w := by
  refine wp_region_quiet_tail n hm hB (C := fun w' => ∃ p : Regrown, w' = Sort.grow (redrawn w p.d) p.os) ⟨⟨w.drawn + 1, #[]⟩, by rw [Sort.grow_empty]; rfl⟩ ?_
  have e : (fun a' => ∀ w', Below w.heap.size w w' → wpList P l.toArray Q (l.drop n) a' w') = fun a' => ∀ w', (∃ p : Regrown, w' = Sort.grow (redrawn w p.d) p.os) → wpList P l.toArray Q (l.drop n) a' w' := by
    funext a'; apply propext
    exact ⟨fun H w' ⟨p, hp⟩ => H w' (by rw [hp]; exact below_regrown w p.d p.os), fun H w' hb => H w' (regrown_of_below hb)⟩
  rw [← e]; exact h
/-- The same without a tail. -/
theorem wp_region_below {P : Program} {id : Nat} {Q : Exit → Act → World → Prop} {a : Act} {w : World} {l : List Oper} (hm : P.follows .mixedOrders = true) (hB : Region.lexB .any l.toArray = true)
    (h : wpQuiet P l.toArray (fun w' => ∃ p : Regrown, w' = Sort.grow (redrawn w p.d) p.os) (fun a' => ∀ w', Below w.heap.size w w' → Q .normal a' w') l a) : (Code.region id l.toArray true).wp P Q a w := by
  refine wp_region_quiet_below hm hB ?_
  have e : (fun a' => ∀ w', Below w.heap.size w w' → Q .normal a' w') = fun a' => ∀ w', (∃ p : Regrown, w' = Sort.grow (redrawn w p.d) p.os) → Q .normal a' w' := by
    funext a'; apply propext
    exact ⟨fun H w' ⟨p, hp⟩ => H w' (by rw [hp]; exact below_regrown w p.d p.os), fun H w' hb => H w' (regrown_of_below hb)⟩
  rw [← e]; exact h

end Go.Proofs.YtocibklkpnblgaaGreatDoor

namespace Go.Proofs.YtocibklkpnblgaaGreatDoor
open Go.RowKit
set_option linter.unusedSimpArgs false
set_option linter.unusedVariables false

/-- A signature's bytes. -/
def pSig (i : Int) (a b c : List UInt8) : List UInt8 := pBig (i % 4294967296).toNat 4 ++ pDigests a ++ pDigests b ++ pDigests c
theorem pDigests_length (l : List UInt8) : (pDigests l).length = 4 + l.length := by rw [pDigests, List.length_append, pBig_length]
set_option maxHeartbeats 2000000 in
set_option maxRecDepth 100000 in
theorem wsig_calls (i : Int) (v1 v2 v3 : Value) (l1 l2 l3 : List UInt8) (h1 : l1.length ≤ 137438953471) (h2 : l2.length ≤ 137438953471) (h3 : l3.length ≤ 137438953471) (w : World) (d1 : Digs w v1 l1) (d2 : Digs w v2 l2) (d3 : Digs w v3 l3) :
    Calls Tryz.prog 31 #[.agg #[.int .i64 i, v1, v2, v3]] w fun e w' => e = .returned (.string (str (pSig i l1 l2 l3))) ∧ Below w.heap.size w w' := by
  unfold pSig
  have hb0 := (Below.refl w.heap.size w).alloc (Nat.le_refl _) (.cells #[.int .i64 i, v1, v2, v3] 27)
  have q0 := al1 w (.cells #[.int .i64 i, v1, v2, v3] 27)
  have e1 := d1.below hb0
  have e2 := d2.below hb0
  have e3 := d3.below hb0
  have L1 := pDigests_length l1
  have L2 := pDigests_length l2
  have L3 := pDigests_length l3
  have hmod : (i % 4294967296).toNat < 4294967296 := by omega
  have hmi : ((i % 4294967296).toNat : Int) = i % 4294967296 := by omega
  have wwc := fun w => wword_calls (i % 4294967296).toNat hmod w
  rw [hmi] at wwc
  have L0 := pBig_length (i % 4294967296).toNat 4
  generalize hP0 : pBig (i % 4294967296).toNat 4 = P0 at *
  have h1c : ∀ w', Below w.heap.size w w' → Calls Tryz.prog 51 #[v1] w' fun e w'' => e = .returned (.string (str (pDigests l1))) ∧ Below w'.heap.size w' w'' := fun w' hb => wdigests_calls v1 l1 h1 w' (d1.below hb)
  have h2c : ∀ w', Below w.heap.size w w' → Calls Tryz.prog 51 #[v2] w' fun e w'' => e = .returned (.string (str (pDigests l2))) ∧ Below w'.heap.size w' w'' := fun w' hb => wdigests_calls v2 l2 h2 w' (d2.below hb)
  have h3c : ∀ w', Below w.heap.size w w' → Calls Tryz.prog 51 #[v3] w' fun e w'' => e = .returned (.string (str (pDigests l3))) ∧ Below w'.heap.size w' w'' := fun w' hb => wdigests_calls v3 l3 h3 w' (d3.below hb)
  generalize pDigests l1 = P1 at *
  generalize pDigests l2 = P2 at *
  generalize pDigests l3 = P3 at *
  have a1 := append_str P0 P1
  have a2 : str (P0 ++ P1) ++ str P2 = str (P0 ++ (P1 ++ P2)) := by rw [append_str, List.append_assoc]
  have a3 : str (P0 ++ (P1 ++ P2)) ++ str P3 = str (P0 ++ (P1 ++ (P2 ++ P3))) := by rw [append_str]; simp
  have n1 : ¬ 9223372036854775807 < P0.length + P1.length := by omega
  have n2 : ¬ 9223372036854775807 < P0.length + P1.length + P2.length := by omega
  have n3 : ¬ 9223372036854775807 < P0.length + P1.length + P2.length + P3.length := by omega
  have n3' : ¬ 9223372036854775807 < P0.length + (P1.length + P2.length) + P3.length := by omega
  generalize hX : w.alloc (.cells #[.int .i64 i, v1, v2, v3] 27) = X at *
  have hrg : ∀ d os, Below w.heap.size w (Sort.grow (redrawn X d) os) := fun d os => hb0.trans ((below_regrown X d os).mono hb0.size)
  have hzX : w.heap.size < X.heap.size := (Array.getElem?_eq_some_iff.1 q0).1
  have cg : ∀ j v, (#[Value.int .i64 i, v1, v2, v3] : Array Value)[j]? = some v → ∀ d os, (Sort.grow (redrawn X d) os).cell? ⟨w.heap.size, j, none⟩ = some v := fun j v hv d os => by
    rw [(below_regrown X d os).cell (p := ⟨w.heap.size, j, none⟩) hzX]; exact (sig_cell q0).1 j v hv
  have c0 : ∀ d os, (Sort.grow (redrawn X d) os).cell? ⟨w.heap.size, 0, none⟩ = some (.int .i64 i) := cg 0 _ rfl
  have c1 : ∀ d os, (Sort.grow (redrawn X d) os).cell? ⟨w.heap.size, 1, none⟩ = some v1 := cg 1 _ rfl
  have c2 : ∀ d os, (Sort.grow (redrawn X d) os).cell? ⟨w.heap.size, 2, none⟩ = some v2 := cg 2 _ rfl
  have c3 : ∀ d os, (Sort.grow (redrawn X d) os).cell? ⟨w.heap.size, 3, none⟩ = some v3 := cg 3 _ rfl
  have k0 : Hid (∀ d os, Calls Tryz.prog 29 #[.int .u32 (i % 4294967296)] (Sort.grow (redrawn X d) os) fun e w'' => e = .returned (.string (str P0)) ∧ ∃ p : Regrown, w'' = Sort.grow (redrawn X p.d) p.os) := fun d os => Calls.regrown_of (wwc _)
  have k1 : Hid (∀ d os, Calls Tryz.prog 51 #[v1] (Sort.grow (redrawn X d) os) fun e w'' => e = .returned (.string (str P1)) ∧ ∃ p : Regrown, w'' = Sort.grow (redrawn X p.d) p.os) := fun d os => Calls.regrown_of (h1c _ (hrg d os))
  have k2 : Hid (∀ d os, Calls Tryz.prog 51 #[v2] (Sort.grow (redrawn X d) os) fun e w'' => e = .returned (.string (str P2)) ∧ ∃ p : Regrown, w'' = Sort.grow (redrawn X p.d) p.os) := fun d os => Calls.regrown_of (h2c _ (hrg d os))
  have k3 : Hid (∀ d os, Calls Tryz.prog 51 #[v3] (Sort.grow (redrawn X d) os) fun e w'' => e = .returned (.string (str P3)) ∧ ∃ p : Regrown, w'' = Sort.grow (redrawn X p.d) p.os) := fun d os => Calls.regrown_of (h3c _ (hrg d os))
  have HX := hide hX
  clear cg hX wwc h1c h2c h3c hrg e1 e2 e3 d1 d2 d3 L0 L1 L2 L3 hmi hmod hP0 h1 h2 h3 q0
  go_enter Tryz.func31, Tryz.ntmps31
  go_wp2_with fail
  rw [unhide HX]
  refine wp_region_below mixed (by kernel_rfl) ?_
  quiet_step (fail)
  quiet_step (fail)
  quiet_step (fail)
  quiet_step (exact unhide k0 _ _)
  quiet_step (fail)
  quiet_step (fail)
  quiet_step (exact unhide k1 _ _)
  quiet_step (fail)
  quiet_step (fail)
  quiet_step (fail)
  quiet_step (exact unhide k2 _ _)
  quiet_step (fail)
  quiet_step (fail)
  quiet_step (fail)
  quiet_step (exact unhide k3 _ _)
  repeat (quiet_step (fail))
  refine wpQuiet_nil ?_
  intro w3 hb3
  go_wp2
  go_ret
  exact ⟨by simp only [List.append_assoc]; rfl, hb0.trans (hb3.mono hb0.size)⟩
end Go.Proofs.YtocibklkpnblgaaGreatDoor

namespace Go.Proofs.YtocibklkpnblgaaGreatDoor
open Go.RowKit

theorem wpQuiet_load_mid {P : Program} {ops : Array Oper} {C : World → Prop} {Q : Act → Prop} {a : Act} {o : Oper} {rest : List Oper} (hw : Region.wanted o (yielded ops a.tmps) = true) (ty : TypeId) (x : Operand) (ho : o.op = .load ty x)
    (b off : Nat) (hx : a.eval x = .pointer (some ⟨b, off, none⟩)) (cs : List Value) (d : TypeDesc) (hc : ∀ w, C w → w.rangeAt b off cs)
    (hu : P.underlying ty = some d) (hd : d.isRow = true) (hi : (P.info? ty).map (·.size) = some cs.length)
    (h : wpQuiet P ops C Q rest (a.put o.dst (.agg cs.toArray))) : wpQuiet P ops C Q (o :: rest) a := by
  show if _ then _ else _
  rw [if_pos hw]
  refine ⟨.agg cs.toArray, fun w hC => ?_, h⟩
  have hl := run_loadVar_mid w b off ty cs d (hc w hC) hu hd hi
  unfold Oper.quietAt execOp
  simp only [ho, hx, Instr.loadAt, Instr.sureAddr, Sem.run_bind, Sem.run_pure, Result.andThen_ok, hl]
  exact ⟨rfl, rfl⟩
theorem wpQuiet_eql {P : Program} {ops : Array Oper} {C : World → Prop} {Q : Act → Prop} {a : Act} {o : Oper} {rest : List Oper} (hw : Region.wanted o (yielded ops a.tmps) = true) (t t' : TypeId) (x y : Operand) (ho : o.op = .binOp .eql t x y t')
    (u v : Array Value) (hx : a.eval x = .agg u) (hy : a.eval y = .agg v) (hgt : P.eqGuardType P.depth t = false) (b : Bool) (he : ∀ w, (binOp .eql t (.agg u) (.agg v)).run P w = .ok (.bool b) w)
    (h : wpQuiet P ops C Q rest (a.put o.dst (.bool b))) : wpQuiet P ops C Q (o :: rest) a := by
  show if _ then _ else _
  rw [if_pos hw]
  refine ⟨.bool b, fun w hC => ?_, h⟩
  have hg : (eqGuard .eql t x y (.agg u) (.agg v)).run P w = .ok () w := run_eqGuard_agg w .eql t x y u v hgt
  unfold Oper.quietAt execOp
  simp only [ho, hx, hy, Sem.run_bind, hg, Result.andThen_ok, he]
  exact ⟨rfl, rfl⟩
end Go.Proofs.YtocibklkpnblgaaGreatDoor

namespace Go.Proofs.YtocibklkpnblgaaGreatDoor
open Go Go.RowKit
set_option linter.unusedSimpArgs false
set_option linter.unusedVariables false

def pUpd (home : Nat) (a b : List UInt8) (i : Int) (l1 l2 l3 : List UInt8) : List UInt8 := pBig home 4 ++ (a ++ (b ++ pSig i l1 l2 l3))
def pStop (home : Nat) (a : List UInt8) (x : Int) (i : Int) (l1 l2 l3 : List UInt8) : List UInt8 := pBig home 4 ++ (a ++ (pBig (x % 4294967296).toNat 4 ++ pSig i l1 l2 l3))
theorem pSig_len (i : Int) (l1 l2 l3 : List UInt8) : (pSig i l1 l2 l3).length = 16 + l1.length + l2.length + l3.length := by
  simp only [pSig, pDigests, List.length_append, pBig_length]; omega
set_option maxHeartbeats 4000000 in
set_option maxRecDepth 100000 in
theorem ubytes_calls (home : Nat) (hh : home < 4294967296) (a b : List UInt8) (ha : a.length = 32) (hb : b.length = 32) (i : Int) (v1 v2 v3 : Value) (l1 l2 l3 : List UInt8) (h1 : l1.length ≤ 137438953471) (h2 : l2.length ≤ 137438953471) (h3 : l3.length ≤ 137438953471) (w : World) (d1 : Digs w v1 l1) (d2 : Digs w v2 l2) (d3 : Digs w v3 l3) :
    Calls Tryz.prog 10 #[.agg (updc home a b #[.int .i64 i, v1, v2, v3])] w fun e w' => e = .returned (.string (str (pUpd home a b i l1 l2 l3))) ∧ Below w.heap.size w w' := by
  unfold pUpd
  have hb0 := (Below.refl w.heap.size w).alloc (Nat.le_refl _) (.cells (updc home a b #[.int .i64 i, v1, v2, v3]) 29)
  have q0 := al1 w (.cells (updc home a b #[.int .i64 i, v1, v2, v3]) 29)
  obtain ⟨X, hX⟩ : ∃ X, w.alloc (.cells (updc home a b #[.int .i64 i, v1, v2, v3]) 29) = X := ⟨_, rfl⟩
  rw [hX] at hb0 q0
  have HX := hide hX
  have zX := (Array.getElem?_eq_some_iff.1 q0).1
  have R1 : ∀ w' : World, (∃ p : Regrown, w' = Sort.grow (redrawn X p.d) p.os) → w'.heap[w.heap.size]? = some (.cells (updc home a b #[.int .i64 i, v1, v2, v3]) 29 (0, 0)) := fun w' ⟨p, hp⟩ => by rw [hp]; exact Below.at (below_regrown X p.d p.os) zX q0
  have RA : Hid (∀ w', (∃ p : Regrown, w' = Sort.grow (redrawn X p.d) p.os) → w'.rangeAt w.heap.size 1 (Lib.byteCells a)) := hide fun w' hp => updc_old home a b ha hb _ w' _ _ (R1 w' hp)
  have RB : Hid (∀ w', (∃ p : Regrown, w' = Sort.grow (redrawn X p.d) p.os) → w'.rangeAt w.heap.size 33 (Lib.byteCells b)) := hide fun w' hp => updc_new home a b ha hb _ w' _ _ (R1 w' hp)
  have RS : Hid (∀ w', (∃ p : Regrown, w' = Sort.grow (redrawn X p.d) p.os) → w'.rangeAt w.heap.size 65 [.int .i64 i, v1, v2, v3]) := hide fun w' hp => updc_sig home a b ha hb #[.int .i64 i, v1, v2, v3] rfl w' _ _ (R1 w' hp)
  have c0 : ∀ d os, (Sort.grow (redrawn X d) os).cell? ⟨w.heap.size, 0, none⟩ = some (.int .u32 (home : Int)) := fun d os => by
    rw [cell_of_row _ _ _ _ _ _ (R1 _ ⟨⟨d, os⟩, rfl⟩)]; exact updc_home home a b _
  have k1 := hide fun d os => Calls.regrown_of (w := X) (d := d) (os := os) (wword_calls home hh _)
  have k2 := hide fun d os => Calls.regrown_of (w := X) (d := d) (os := os) (wdigest_calls a ha _)
  have k3 := hide fun d os => Calls.regrown_of (w := X) (d := d) (os := os) (wdigest_calls b hb _)
  have k4 := hide fun d os => Calls.regrown_of (w := X) (d := d) (os := os) (wsig_calls i v1 v2 v3 l1 l2 l3 h1 h2 h3 _ (d1.below (hb0.trans ((below_regrown X d os).mono hb0.size))) (d2.below (hb0.trans ((below_regrown X d os).mono hb0.size))) (d3.below (hb0.trans ((below_regrown X d os).mono hb0.size))))
  have L1 := pBig_length home 4
  have L4 := pSig_len i l1 l2 l3
  generalize pBig home 4 = P1 at *
  generalize pSig i l1 l2 l3 = P4 at *
  have a1 := append_str P1 a
  have a2 : str (P1 ++ a) ++ str b = str (P1 ++ (a ++ b)) := by rw [append_str]; simp
  have a3 : str (P1 ++ (a ++ b)) ++ str P4 = str (P1 ++ (a ++ (b ++ P4))) := by rw [append_str]; simp
  have n1 : ¬ 9223372036854775807 < P1.length + a.length := by omega
  have n2 : ¬ 9223372036854775807 < P1.length + a.length + b.length := by omega
  have n3 : ¬ 9223372036854775807 < P1.length + (a.length + b.length) + P4.length := by omega
  have Ha := hide ha
  have Hb := hide hb
  obtain ⟨ROW, hROW⟩ : ∃ R, updc home a b #[.int .i64 i, v1, v2, v3] = R := ⟨_, rfl⟩
  rw [hROW] at HX ⊢
  clear R1 q0 zX hX ha d1 d2 d3 h1 h2 h3 L1 L4 hROW hb
  go_enter Tryz.func10, Tryz.ntmps10
  go_wp2_with (rw [unhide HX])
  refine wp_region_below mixed (by kernel_rfl) ?_
  quiet_step (fail)
  quiet_step (fail)
  quiet_step (exact unhide k1 _ _)
  quiet_step (fail)
  refine wpQuiet_load_mid rfl 24 (.tmp 6) rfl w.heap.size 1 rfl (Lib.byteCells a) _ (unhide RA) Tryz.underlying24 rfl (by rw [Lib.byteCells_length, unhide Ha]; kernel_rfl) ?_
  quiet_step (exact unhide k2 _ _)
  quiet_step (fail)
  quiet_step (fail)
  refine wpQuiet_load_mid rfl 24 (.tmp 10) rfl w.heap.size 33 rfl (Lib.byteCells b) _ (unhide RB) Tryz.underlying24 rfl (by rw [Lib.byteCells_length, unhide Hb]; kernel_rfl) ?_
  quiet_step (exact unhide k3 _ _)
  quiet_step (fail)
  quiet_step (fail)
  refine wpQuiet_load_mid rfl 27 (.tmp 14) rfl w.heap.size 65 rfl [.int .i64 i, v1, v2, v3] _ (unhide RS) Tryz.underlying27 rfl (by kernel_rfl) ?_
  quiet_step (exact unhide k4 _ _)
  repeat (quiet_step (fail))
  refine wpQuiet_nil ?_
  intro w3 hb3
  go_wp2
  go_ret
  exact ⟨rfl, hb0.trans (hb3.mono hb0.size)⟩
set_option maxHeartbeats 4000000 in
set_option maxRecDepth 100000 in
theorem sbytes_calls (home : Nat) (hh : home < 4294967296) (a : List UInt8) (ha : a.length = 32) (x : Int) (i : Int) (v1 v2 v3 : Value) (l1 l2 l3 : List UInt8) (h1 : l1.length ≤ 137438953471) (h2 : l2.length ≤ 137438953471) (h3 : l3.length ≤ 137438953471) (w : World) (d1 : Digs w v1 l1) (d2 : Digs w v2 l2) (d3 : Digs w v3 l3) :
    Calls Tryz.prog 12 #[.agg (stopc home a x #[.int .i64 i, v1, v2, v3])] w fun e w' => e = .returned (.string (str (pStop home a x i l1 l2 l3))) ∧ Below w.heap.size w w' := by
  unfold pStop
  have hb0 := (Below.refl w.heap.size w).alloc (Nat.le_refl _) (.cells (stopc home a x #[.int .i64 i, v1, v2, v3]) 31)
  have q0 := al1 w (.cells (stopc home a x #[.int .i64 i, v1, v2, v3]) 31)
  obtain ⟨X, hX⟩ : ∃ X, w.alloc (.cells (stopc home a x #[.int .i64 i, v1, v2, v3]) 31) = X := ⟨_, rfl⟩
  rw [hX] at hb0 q0
  have HX := hide hX
  have zX := (Array.getElem?_eq_some_iff.1 q0).1
  have R1 : ∀ w' : World, (∃ p : Regrown, w' = Sort.grow (redrawn X p.d) p.os) → w'.heap[w.heap.size]? = some (.cells (stopc home a x #[.int .i64 i, v1, v2, v3]) 31 (0, 0)) := fun w' ⟨p, hp⟩ => by rw [hp]; exact Below.at (below_regrown X p.d p.os) zX q0
  have RA : Hid (∀ w', (∃ p : Regrown, w' = Sort.grow (redrawn X p.d) p.os) → w'.rangeAt w.heap.size 1 (Lib.byteCells a)) := hide fun w' hp => stopc_key home a ha x _ w' _ _ (R1 w' hp)
  have RS : Hid (∀ w', (∃ p : Regrown, w' = Sort.grow (redrawn X p.d) p.os) → w'.rangeAt w.heap.size 34 [.int .i64 i, v1, v2, v3]) := hide fun w' hp => stopc_sig home a ha x #[.int .i64 i, v1, v2, v3] rfl w' _ _ (R1 w' hp)
  have c0 : ∀ d os, (Sort.grow (redrawn X d) os).cell? ⟨w.heap.size, 0, none⟩ = some (.int .u32 (home : Int)) := fun d os => by
    rw [cell_of_row _ _ _ _ _ _ (R1 _ ⟨⟨d, os⟩, rfl⟩)]; exact stopc_home home a x _
  have c33 : ∀ d os, (Sort.grow (redrawn X d) os).cell? ⟨w.heap.size, 33, none⟩ = some (.int .i64 x) := fun d os => by
    rw [cell_of_row _ _ _ _ _ _ (R1 _ ⟨⟨d, os⟩, rfl⟩)]; exact stopc_who home a ha x _
  have k1 := hide fun d os => Calls.regrown_of (w := X) (d := d) (os := os) (wword_calls home hh _)
  have k2 := hide fun d os => Calls.regrown_of (w := X) (d := d) (os := os) (wdigest_calls a ha _)
  have hx0 : 0 ≤ x % 4294967296 := Int.emod_nonneg _ (by decide)
  have hx1 : x % 4294967296 < 4294967296 := Int.emod_lt_of_pos _ (by decide)
  have k3 := fun d os => Calls.regrown_of (w := X) (d := d) (os := os) (wword_calls (x % 4294967296).toNat (by omega) _)
  rw [Int.toNat_of_nonneg hx0] at k3
  have k3 := hide k3
  have k4 := hide fun d os => Calls.regrown_of (w := X) (d := d) (os := os) (wsig_calls i v1 v2 v3 l1 l2 l3 h1 h2 h3 _ (d1.below (hb0.trans ((below_regrown X d os).mono hb0.size))) (d2.below (hb0.trans ((below_regrown X d os).mono hb0.size))) (d3.below (hb0.trans ((below_regrown X d os).mono hb0.size))))
  have L1 := pBig_length home 4
  have L4 := pSig_len i l1 l2 l3
  have L3 := pBig_length (x % 4294967296).toNat 4
  generalize pBig (x % 4294967296).toNat 4 = P3 at *
  generalize pBig home 4 = P1 at *
  generalize pSig i l1 l2 l3 = P4 at *
  have a1 := append_str P1 a
  have a2 : str (P1 ++ a) ++ str P3 = str (P1 ++ (a ++ P3)) := by rw [append_str]; simp
  have a3 : str (P1 ++ (a ++ P3)) ++ str P4 = str (P1 ++ (a ++ (P3 ++ P4))) := by rw [append_str]; simp
  have n1 : ¬ 9223372036854775807 < P1.length + a.length := by omega
  have n2 : ¬ 9223372036854775807 < P1.length + a.length + P3.length := by omega
  have n3 : ¬ 9223372036854775807 < P1.length + (a.length + P3.length) + P4.length := by omega
  have Ha := hide ha
  obtain ⟨ROW, hROW⟩ : ∃ R, stopc home a x #[.int .i64 i, v1, v2, v3] = R := ⟨_, rfl⟩
  rw [hROW] at HX ⊢
  clear R1 q0 zX hX ha d1 d2 d3 h1 h2 h3 L1 L4 hROW L3 hx0 hx1
  go_enter Tryz.func12, Tryz.ntmps12
  go_wp2_with (rw [unhide HX])
  refine wp_region_below mixed (by kernel_rfl) ?_
  quiet_step (fail)
  quiet_step (fail)
  quiet_step (exact unhide k1 _ _)
  quiet_step (fail)
  refine wpQuiet_load_mid rfl 24 (.tmp 6) rfl w.heap.size 1 rfl (Lib.byteCells a) _ (unhide RA) Tryz.underlying24 rfl (by rw [Lib.byteCells_length, unhide Ha]; kernel_rfl) ?_
  quiet_step (exact unhide k2 _ _)
  quiet_step (fail)
  quiet_step (fail)
  quiet_step (fail)
  quiet_step (fail)
  quiet_step (exact unhide k3 _ _)
  quiet_step (fail)
  quiet_step (fail)
  refine wpQuiet_load_mid rfl 27 (.tmp 15) rfl w.heap.size 34 rfl [.int .i64 i, v1, v2, v3] _ (unhide RS) Tryz.underlying27 rfl (by kernel_rfl) ?_
  quiet_step (exact unhide k4 _ _)
  repeat (quiet_step (fail))
  refine wpQuiet_nil ?_
  intro w3 hb3
  go_wp2
  go_ret
  exact ⟨rfl, hb0.trans (hb3.mono hb0.size)⟩
end Go.Proofs.YtocibklkpnblgaaGreatDoor

namespace Go.Proofs.YtocibklkpnblgaaGreatDoor
open Go.RowKit
set_option linter.unusedSimpArgs false
set_option linter.unusedVariables false

theorem Turned.alloc {g : Nat} {w w' : World} (h : Turned g w w') (hg : g ≤ w'.heap.size) (o : Obj) : Turned g w (w'.alloc o) :=
  h.trans (Turned.of_below ((Below.refl _ _).alloc (Nat.le_refl _) o) hg)
theorem Turned.setNew {g G o : Nat} {w w' : World} (h : Turned g w w') (hG : w.heap.size ≤ G) (hg : g ≤ G) (v : Value) : Turned g w (w'.setCell ⟨G, o, none⟩ v) :=
  ⟨h.below.setCell (by show g ≤ G; exact hg) _, fun k hk hk2 => by rw [heap_setCell_other _ _ _ _ (by show k ≠ G; omega)]; exact h.kept k hk hk2⟩
theorem RdAt.other {g G o : Nat} {w : World} {r : Rd} (h : RdAt w g r) (hG : g ≠ G) (v : Value) : RdAt (w.setCell ⟨G, o, none⟩ v) g r :=
  (heap_setCell_other w ⟨G, o, none⟩ g v (by show g ≠ G; exact hG)).trans h
theorem RdAt.alloc {g : Nat} {w : World} {r : Rd} (h : RdAt w g r) (o : Obj) : RdAt (w.alloc o) g r := (Below.heap_alloc w o g h.lt).trans h

def Rd.head (r : Rd) : Rd := if 2147483647 < (r.num 4).1 then (r.num 4).2.fail 8 else (r.num 4).2
theorem Rd.head_rest (r : Rd) : r.head.rest.length ≤ r.rest.length := by
  unfold Rd.head
  have := r.take_rest 4
  split
  · rw [Rd.fail_rest]; exact this
  · exact this
def Rd.d1 (r : Rd) : List UInt8 × Rd := r.head.digests 32
def Rd.d2 (r : Rd) : List UInt8 × Rd := r.d1.2.digests 32
def Rd.d3 (r : Rd) : List UInt8 × Rd := r.d2.2.digests 32
theorem Rd.d1_rest (r : Rd) : r.d1.2.rest.length ≤ r.rest.length := Nat.le_trans (Rd.digests_rest _ _) r.head_rest
theorem Rd.d2_rest (r : Rd) : r.d2.2.rest.length ≤ r.rest.length := Nat.le_trans (Rd.digests_rest _ _) r.d1_rest
theorem Rd.d3_rest (r : Rd) : r.d3.2.rest.length ≤ r.rest.length := Nat.le_trans (Rd.digests_rest _ _) r.d2_rest


set_option maxHeartbeats 2000000 in
set_option maxRecDepth 100000 in
theorem rsig_calls (g : Nat) (r : Rd) (hl : r.rest.length ≤ 4611686018427387904) (w : World) (h : RdAt w g r) :
    Calls Tryz.prog 23 #[.pointer (some ⟨g, 0, none⟩)] w fun e w' => ∃ v, e = .returned v ∧ RdAt w' g r.d3.2 ∧ Turned g w w' ∧
      (r.d3.2.err ≠ 0 → v = .agg sig0) ∧ (r.d3.2.err = 0 → ∃ v1 v2 v3, v = .agg #[.int .i64 ((r.num 4).1 : Int), v1, v2, v3] ∧ Digs w' v1 r.d1.1 ∧ Digs w' v2 r.d2.1 ∧ Digs w' v3 r.d3.1) := by
  have hg := h.lt
  have hm := r.num_lt 4
  have hm : (r.num 4).1 < 4294967296 := hm
  have r0 := r.head_rest
  have r1 := r.d1_rest
  have r2 := r.d2_rest
  have hi : (Tryz.prog.info? 27).map (·.size) = some sig0.size := by kernel_rfl
  have q0 := al1 w (.cells sig0 27)
  have h0 := h.alloc (.cells sig0 27)
  have t0 := (Turned.refl g w).alloc (Nat.le_of_lt hg) (.cells sig0 27)
  have z0 : (w.alloc (.cells sig0 27)).heap.size = w.heap.size + 1 := by simp
  have hw := rword_calls g r hl _ h0
  have HW := hide hw
  have HI := hide hi
  generalize hX0 : w.alloc (.cells sig0 27) = W0 at *
  have HX0 := hide hX0
  clear hw h0 hi hX0
  have dA : ∀ w, RdAt w g r.head → Calls Tryz.prog 45 #[.pointer (some ⟨g, 0, none⟩), .int .i64 32] w fun e w' => ∃ b k, e = .returned (.slice (some ⟨b, 0, none⟩) k k) ∧ r.d1.1.length = 32 * k ∧ w.heap.size ≤ b ∧ w'.heap[b]? = some (.cells (bc r.d1.1) 24 (0, 0)) ∧ RdAt w' g r.d1.2 ∧ Turned g w w' := fun w hh => rdigests_calls g r.head (by omega) 32 w hh
  have dB : ∀ w, RdAt w g r.d1.2 → Calls Tryz.prog 45 #[.pointer (some ⟨g, 0, none⟩), .int .i64 32] w fun e w' => ∃ b k, e = .returned (.slice (some ⟨b, 0, none⟩) k k) ∧ r.d2.1.length = 32 * k ∧ w.heap.size ≤ b ∧ w'.heap[b]? = some (.cells (bc r.d2.1) 24 (0, 0)) ∧ RdAt w' g r.d2.2 ∧ Turned g w w' := fun w hh => rdigests_calls g r.d1.2 (by omega) 32 w hh
  have dC : ∀ w, RdAt w g r.d2.2 → Calls Tryz.prog 45 #[.pointer (some ⟨g, 0, none⟩), .int .i64 32] w fun e w' => ∃ b k, e = .returned (.slice (some ⟨b, 0, none⟩) k k) ∧ r.d3.1.length = 32 * k ∧ w.heap.size ≤ b ∧ w'.heap[b]? = some (.cells (bc r.d3.1) 24 (0, 0)) ∧ RdAt w' g r.d3.2 ∧ Turned g w w' := fun w hh => rdigests_calls g r.d2.2 (by omega) 32 w hh
  have hhd : (2147483647 < (r.num 4).1 → r.head = (r.num 4).2.fail 8) ∧ (¬ 2147483647 < (r.num 4).1 → r.head = (r.num 4).2) := ⟨fun h => by rw [Rd.head, if_pos h], fun h => by rw [Rd.head, if_neg h]⟩
  generalize r.head = rh at *
  generalize r.d1.1 = l1 at *
  generalize r.d1.2 = ra at *
  generalize r.d2.1 = l2 at *
  generalize r.d2.2 = rb at *
  generalize r.d3.1 = l3 at *
  generalize r.d3.2 = rc at *
  generalize (r.num 4).1 = m at *
  generalize (r.num 4).2 = rn at *
  have DA := hide dA
  have DB := hide dB
  have DC := hide dC
  clear dA dB dC r0 r1 r2 h hl
  by_cases hbig : 2147483647 < m
  case' pos =>
    have hrh := hide (hhd.1 hbig)
    have dd : decide ((2147483647 : Int) < (m : Int)) = true := by simp; omega
    clear hhd hbig
    go_enter Tryz.func23, Tryz.ntmps23
    go_wp2_with fail
    rw [show w.alloc (.cells #[.int .i64 0, .slice none 0 0, .slice none 0 0, .slice none 0 0] 27) = W0 from unhide HX0]
    refine (unhide HW).mono ?_
    rintro e wa ⟨rfl, ha, ta⟩
    go_wp2_with fail
    refine (fail_calls g rn 8 _ ha).mono ?_
    rintro e w1 ⟨rfl, h1, tb⟩
    rw [← unhide hrh] at h1
    have t1 := ta.trans tb
    clear ha ta tb hrh
  case' neg =>
    have hrh := hide (hhd.2 hbig)
    have dd : decide ((2147483647 : Int) < (m : Int)) = false := by simp; omega
    clear hhd hbig
    go_enter Tryz.func23, Tryz.ntmps23
    go_wp2_with fail
    rw [show w.alloc (.cells #[.int .i64 0, .slice none 0 0, .slice none 0 0, .slice none 0 0] 27) = W0 from unhide HX0]
    refine (unhide HW).mono ?_
    rintro e w1 ⟨rfl, h1, t1⟩
    rw [← unhide hrh] at h1
    clear hrh
  all_goals
    have q1 := t1.row (by omega) q0
    have T1 := t0.trans t1
    have z1 := t1.below.size
    clear t0 t1 q0
    go_wp2_with fail
    have g2 := al1 w1 (.cells #[.int .i64 (m : Int), .slice none 0 0, .slice none 0 0, .slice none 0 0] 27)
    have q2 := (Below.heap_alloc w1 (.cells #[.int .i64 (m : Int), .slice none 0 0, .slice none 0 0, .slice none 0 0] 27) w.heap.size (by omega)).trans q1
    have h2 := h1.alloc (.cells #[.int .i64 (m : Int), .slice none 0 0, .slice none 0 0, .slice none 0 0] 27)
    have T2 := T1.alloc (by omega) (.cells #[.int .i64 (m : Int), .slice none 0 0, .slice none 0 0, .slice none 0 0] 27)
    have z2 : (w1.alloc (.cells #[.int .i64 (m : Int), .slice none 0 0, .slice none 0 0, .slice none 0 0] 27)).heap.size = w1.heap.size + 1 := by simp
    refine (unhide DA (w1.alloc (.cells #[.int .i64 (m : Int), .slice none 0 0, .slice none 0 0, .slice none 0 0] 27)) h2).mono ?_
    generalize w1.alloc (.cells #[.int .i64 (m : Int), .slice none 0 0, .slice none 0 0, .slice none 0 0] 27) = W2 at *
    generalize hG : w1.heap.size = G at *
    rintro e w3 ⟨x1, k1, rfl, hk1, hx1, row1, h3, t3⟩
    have g3 := t3.row (by omega) g2
    have q3 := t3.row (by omega) q2
    have T3 := T2.trans t3
    have z3 := t3.below.size
    have c3 := (sig_cell g3).1 1 _ rfl
    have f3 := (sig_cell g3).2 1
    have HK1 := hide hk1
    clear g2 q1 q2 h1 h2 T1 T2 t3 hk1
    go_wp2_with fail
    have g4 := heap_setCell_same w3 G 1 _ _ (.slice (some ⟨x1, 0, none⟩) k1 k1) g3
    have q4 := (heap_setCell_other w3 ⟨G, 1, none⟩ w.heap.size (.slice (some ⟨x1, 0, none⟩) k1 k1) (by show _ ≠ G; omega)).trans q3
    have row1b := (heap_setCell_other w3 ⟨G, 1, none⟩ x1 (.slice (some ⟨x1, 0, none⟩) k1 k1) (by show _ ≠ G; omega)).trans row1
    have h4 := h3.other (o := 1) (G := G) (by omega) (.slice (some ⟨x1, 0, none⟩) k1 k1)
    have T4 := T3.setNew (G := G) (o := 1) (by omega) (by omega) (.slice (some ⟨x1, 0, none⟩) k1 k1)
    have z4 : (w3.setCell ⟨G, 1, none⟩ (.slice (some ⟨x1, 0, none⟩) k1 k1)).heap.size = w3.heap.size := World.size_setCell _ _ _
    refine (unhide DB (w3.setCell ⟨G, 1, none⟩ (.slice (some ⟨x1, 0, none⟩) k1 k1)) h4).mono ?_
    generalize w3.setCell ⟨G, 1, none⟩ (.slice (some ⟨x1, 0, none⟩) k1 k1) = W4 at *
    rintro e w5 ⟨x2, k2, rfl, hk2, hx2, row2, h5, t5⟩
    have g5 := t5.row (by omega) g4
    have q5 := t5.row (by omega) q4
    have row1c := t5.row (by omega) row1b
    have T5 := T4.trans t5
    have z5 := t5.below.size
    have c5 := (sig_cell g5).1 2 _ rfl
    have f5 := (sig_cell g5).2 2
    have HK2 := hide hk2
    have hx1z : x1 < w3.heap.size := (Array.getElem?_eq_some_iff.1 row1).1
    clear g3 g4 q3 q4 h3 h4 T3 T4 t5 hk2 c3 f3 row1 row1b
    go_wp2_with fail
    have g6 := heap_setCell_same w5 G 2 _ _ (.slice (some ⟨x2, 0, none⟩) k2 k2) g5
    have q6 := (heap_setCell_other w5 ⟨G, 2, none⟩ w.heap.size (.slice (some ⟨x2, 0, none⟩) k2 k2) (by show _ ≠ G; omega)).trans q5
    have row1d := (heap_setCell_other w5 ⟨G, 2, none⟩ x1 (.slice (some ⟨x2, 0, none⟩) k2 k2) (by show _ ≠ G; omega)).trans row1c
    have row2b := (heap_setCell_other w5 ⟨G, 2, none⟩ x2 (.slice (some ⟨x2, 0, none⟩) k2 k2) (by show _ ≠ G; omega)).trans row2
    have h6 := h5.other (o := 2) (G := G) (by omega) (.slice (some ⟨x2, 0, none⟩) k2 k2)
    have T6 := T5.setNew (G := G) (o := 2) (by omega) (by omega) (.slice (some ⟨x2, 0, none⟩) k2 k2)
    have z6 : (w5.setCell ⟨G, 2, none⟩ (.slice (some ⟨x2, 0, none⟩) k2 k2)).heap.size = w5.heap.size := World.size_setCell _ _ _
    refine (unhide DC (w5.setCell ⟨G, 2, none⟩ (.slice (some ⟨x2, 0, none⟩) k2 k2)) h6).mono ?_
    generalize w5.setCell ⟨G, 2, none⟩ (.slice (some ⟨x2, 0, none⟩) k2 k2) = W6 at *
    rintro e w7 ⟨x3, k3, rfl, hk3, hx3, row3, h7, t7⟩
    have g7 := t7.row (by omega) g6
    have q7 := t7.row (by omega) q6
    have row1e := t7.row (by omega) row1d
    have row2c := t7.row (by omega) row2b
    have T7 := T6.trans t7
    have z7 := t7.below.size
    have c7 := (sig_cell g7).1 3 _ rfl
    have f7 := (sig_cell g7).2 3
    have HK3 := hide hk3
    clear g5 g6 q5 q6 h5 h6 T5 T6 t7 hk3 c5 f5 row1c row1d row2 row2b
    go_wp2_with fail
    have g8 := heap_setCell_same w7 G 3 _ _ (.slice (some ⟨x3, 0, none⟩) k3 k3) g7
    have q8 := (heap_setCell_other w7 ⟨G, 3, none⟩ w.heap.size (.slice (some ⟨x3, 0, none⟩) k3 k3) (by show _ ≠ G; omega)).trans q7
    have row1f := (heap_setCell_other w7 ⟨G, 3, none⟩ x1 (.slice (some ⟨x3, 0, none⟩) k3 k3) (by show _ ≠ G; omega)).trans row1e
    have row2d := (heap_setCell_other w7 ⟨G, 3, none⟩ x2 (.slice (some ⟨x3, 0, none⟩) k3 k3) (by show _ ≠ G; omega)).trans row2c
    have row3b := (heap_setCell_other w7 ⟨G, 3, none⟩ x3 (.slice (some ⟨x3, 0, none⟩) k3 k3) (by show _ ≠ G; omega)).trans row3
    have h8 := h7.other (o := 3) (G := G) (by omega) (.slice (some ⟨x3, 0, none⟩) k3 k3)
    have T8 := T7.setNew (G := G) (o := 3) (by omega) (by omega) (.slice (some ⟨x3, 0, none⟩) k3 k3)
    refine (failed_calls g rc (w7.setCell ⟨G, 3, none⟩ (.slice (some ⟨x3, 0, none⟩) k3 k3)) h8).mono ?_
    generalize w7.setCell ⟨G, 3, none⟩ (.slice (some ⟨x3, 0, none⟩) k3 k3) = W8 at *
    rintro e w9 ⟨rfl, rfl⟩
    have c80 := (sig_cell q8).1 0 _ rfl
    have c81 := (sig_cell q8).1 1 _ rfl
    have c82 := (sig_cell q8).1 2 _ rfl
    have c83 := (sig_cell q8).1 3 _ rfl
    have f8 := (sig_cell q8).2
    have d80 : w9.cell? ⟨G, 0, none⟩ = some (.int .i64 (m : Int)) := (sig_cell g8).1 0 _ rfl
    have d81 : w9.cell? ⟨G, 1, none⟩ = some (.slice (some ⟨x1, 0, none⟩) k1 k1) := (sig_cell g8).1 1 _ rfl
    have d82 : w9.cell? ⟨G, 2, none⟩ = some (.slice (some ⟨x2, 0, none⟩) k2 k2) := (sig_cell g8).1 2 _ rfl
    have d83 : w9.cell? ⟨G, 3, none⟩ = some (.slice (some ⟨x3, 0, none⟩) k3 k3) := (sig_cell g8).1 3 _ rfl
    have Q8 := hide q8
    have H8 := hide h8
    have hRg : w.heap.size ≠ g := by omega
    clear g7 q7 h7 T7 c7 f7 row1e row2c row3 q8 g8
    by_cases he : rc.err = 0
    · have ee : (rc.err != 0) = false := by simpa using he
      rw [ee]
      go_wp2
      have W4 : ∀ v0 v1 v2 v3 : Value, Turned g w ((((w9.setCell ⟨w.heap.size, 0, none⟩ v0).setCell ⟨w.heap.size, 1, none⟩ v1).setCell ⟨w.heap.size, 2, none⟩ v2).setCell ⟨w.heap.size, 3, none⟩ v3) ∧ RdAt ((((w9.setCell ⟨w.heap.size, 0, none⟩ v0).setCell ⟨w.heap.size, 1, none⟩ v1).setCell ⟨w.heap.size, 2, none⟩ v2).setCell ⟨w.heap.size, 3, none⟩ v3) g rc ∧ ∀ k o, k ≠ w.heap.size → w9.heap[k]? = some o → ((((w9.setCell ⟨w.heap.size, 0, none⟩ v0).setCell ⟨w.heap.size, 1, none⟩ v1).setCell ⟨w.heap.size, 2, none⟩ v2).setCell ⟨w.heap.size, 3, none⟩ v3).heap[k]? = some o := fun v0 v1 v2 v3 =>
        ⟨(((T8.setNew (Nat.le_refl _) (by omega) _).setNew (Nat.le_refl _) (by omega) _).setNew (Nat.le_refl _) (by omega) _).setNew (Nat.le_refl _) (by omega) _,
          ((((unhide H8).other (Ne.symm hRg) _).other (Ne.symm hRg) _).other (Ne.symm hRg) _).other (Ne.symm hRg) _,
          fun k o hk ho => by
            rw [heap_setCell_other _ _ _ _ (by show k ≠ _; exact hk), heap_setCell_other _ _ _ _ (by show k ≠ _; exact hk), heap_setCell_other _ _ _ _ (by show k ≠ _; exact hk), heap_setCell_other _ _ _ _ (by show k ≠ _; exact hk)]; exact ho⟩
      refine bodyPost_ret (results_cell_row rfl _ _ w.heap.size _ _ _ _ rfl (set4 _ _ _ _ _ _ _ _ _ _ _ (unhide Q8)) Tryz.underlying27 rfl (unhide HI)) rfl ⟨_, rfl, (W4 _ _ _ _).2.1, (W4 _ _ _ _).1, fun hh => absurd he hh, fun _ => ⟨_, _, _, rfl, digs_row (unhide HK1) ((W4 _ _ _ _).2.2 _ _ (by omega) row1f), digs_row (unhide HK2) ((W4 _ _ _ _).2.2 _ _ (by omega) row2d), digs_row (unhide HK3) ((W4 _ _ _ _).2.2 _ _ (by omega) row3b)⟩⟩
    · have ee : (rc.err != 0) = true := by simpa using he
      rw [ee]
      go_wp2
      refine bodyPost_ret (results_cell_row rfl _ _ w.heap.size _ _ _ _ rfl (set4 _ _ _ _ _ _ _ _ _ _ _ (unhide Q8)) Tryz.underlying27 rfl (unhide HI)) rfl ⟨_, rfl, ((((unhide H8).other (Ne.symm hRg) _).other (Ne.symm hRg) _).other (Ne.symm hRg) _).other (Ne.symm hRg) _, (((T8.setNew (Nat.le_refl _) (by omega) _).setNew (Nat.le_refl _) (by omega) _).setNew (Nat.le_refl _) (by omega) _).setNew (Nat.le_refl _) (by omega) _, fun _ => rfl, fun hh => absurd hh he⟩
end Go.Proofs.YtocibklkpnblgaaGreatDoor

namespace Go.Proofs.YtocibklkpnblgaaGreatDoor
open Go.RowKit
set_option linter.unusedSimpArgs false
set_option linter.unusedVariables false

/-- A list of digests in a new block. -/
structure NewD (B : Nat) (w : World) (v : Value) (l : List UInt8) : Prop where
  ex : ∃ b k, v = .slice (some ⟨b, 0, none⟩) k k ∧ l.length = 32 * k ∧ B ≤ b ∧ w.heap[b]? = some (.cells (bc l) 24 (0, 0))
theorem NewD.digs {B : Nat} {w : World} {v : Value} {l : List UInt8} (h : NewD B w v l) : Digs w v l := by
  obtain ⟨b, k, rfl, hl, _, hr⟩ := h.ex
  exact digs_row hl hr
theorem NewD.keep {B C : Nat} {w w' : World} {v : Value} {l : List UInt8} (h : NewD B w v l) (hk : ∀ k, B ≤ k → k < w.heap.size → w'.heap[k]? = w.heap[k]?) (hC : C ≤ B) : NewD C w' v l := by
  obtain ⟨b, k, rfl, hl, hB, hr⟩ := h.ex
  exact ⟨b, k, rfl, hl, by omega, (hk b hB (Array.getElem?_eq_some_iff.1 hr).1).trans hr⟩
theorem NewD.below {B : Nat} {w w' : World} {v : Value} {l : List UInt8} (h : NewD B w v l) (hb : Below w.heap.size w w') : NewD B w' v l :=
  h.keep (fun k _ hk => hb.block k hk) (Nat.le_refl _)
theorem NewD.one {B : Nat} {w : World} {v : Value} {l : List UInt8} (h : NewD B w v l) : v.oneCell' = true := by
  obtain ⟨b, k, rfl, _⟩ := h.ex
  rfl

set_option maxHeartbeats 2000000 in
set_option maxRecDepth 100000 in
theorem rsigN_calls (g : Nat) (r : Rd) (hl : r.rest.length ≤ 4611686018427387904) (w : World) (h : RdAt w g r) :
    Calls Tryz.prog 23 #[.pointer (some ⟨g, 0, none⟩)] w fun e w' => ∃ v, e = .returned v ∧ RdAt w' g r.d3.2 ∧ Turned g w w' ∧
      (r.d3.2.err ≠ 0 → v = .agg sig0) ∧ (r.d3.2.err = 0 → ∃ v1 v2 v3, v = .agg #[.int .i64 ((r.num 4).1 : Int), v1, v2, v3] ∧ NewD w.heap.size w' v1 r.d1.1 ∧ NewD w.heap.size w' v2 r.d2.1 ∧ NewD w.heap.size w' v3 r.d3.1) := by
  have hg := h.lt
  have hm := r.num_lt 4
  have hm : (r.num 4).1 < 4294967296 := hm
  have r0 := r.head_rest
  have r1 := r.d1_rest
  have r2 := r.d2_rest
  have hi : (Tryz.prog.info? 27).map (·.size) = some sig0.size := by kernel_rfl
  have q0 := al1 w (.cells sig0 27)
  have h0 := h.alloc (.cells sig0 27)
  have t0 := (Turned.refl g w).alloc (Nat.le_of_lt hg) (.cells sig0 27)
  have z0 : (w.alloc (.cells sig0 27)).heap.size = w.heap.size + 1 := by simp
  have hw := rword_calls g r hl _ h0
  have HW := hide hw
  have HI := hide hi
  generalize hX0 : w.alloc (.cells sig0 27) = W0 at *
  have HX0 := hide hX0
  clear hw h0 hi hX0
  have dA : ∀ w, RdAt w g r.head → Calls Tryz.prog 45 #[.pointer (some ⟨g, 0, none⟩), .int .i64 32] w fun e w' => ∃ b k, e = .returned (.slice (some ⟨b, 0, none⟩) k k) ∧ r.d1.1.length = 32 * k ∧ w.heap.size ≤ b ∧ w'.heap[b]? = some (.cells (bc r.d1.1) 24 (0, 0)) ∧ RdAt w' g r.d1.2 ∧ Turned g w w' := fun w hh => rdigests_calls g r.head (by omega) 32 w hh
  have dB : ∀ w, RdAt w g r.d1.2 → Calls Tryz.prog 45 #[.pointer (some ⟨g, 0, none⟩), .int .i64 32] w fun e w' => ∃ b k, e = .returned (.slice (some ⟨b, 0, none⟩) k k) ∧ r.d2.1.length = 32 * k ∧ w.heap.size ≤ b ∧ w'.heap[b]? = some (.cells (bc r.d2.1) 24 (0, 0)) ∧ RdAt w' g r.d2.2 ∧ Turned g w w' := fun w hh => rdigests_calls g r.d1.2 (by omega) 32 w hh
  have dC : ∀ w, RdAt w g r.d2.2 → Calls Tryz.prog 45 #[.pointer (some ⟨g, 0, none⟩), .int .i64 32] w fun e w' => ∃ b k, e = .returned (.slice (some ⟨b, 0, none⟩) k k) ∧ r.d3.1.length = 32 * k ∧ w.heap.size ≤ b ∧ w'.heap[b]? = some (.cells (bc r.d3.1) 24 (0, 0)) ∧ RdAt w' g r.d3.2 ∧ Turned g w w' := fun w hh => rdigests_calls g r.d2.2 (by omega) 32 w hh
  have hhd : (2147483647 < (r.num 4).1 → r.head = (r.num 4).2.fail 8) ∧ (¬ 2147483647 < (r.num 4).1 → r.head = (r.num 4).2) := ⟨fun h => by rw [Rd.head, if_pos h], fun h => by rw [Rd.head, if_neg h]⟩
  generalize r.head = rh at *
  generalize r.d1.1 = l1 at *
  generalize r.d1.2 = ra at *
  generalize r.d2.1 = l2 at *
  generalize r.d2.2 = rb at *
  generalize r.d3.1 = l3 at *
  generalize r.d3.2 = rc at *
  generalize (r.num 4).1 = m at *
  generalize (r.num 4).2 = rn at *
  have DA := hide dA
  have DB := hide dB
  have DC := hide dC
  clear dA dB dC r0 r1 r2 h hl
  by_cases hbig : 2147483647 < m
  case' pos =>
    have hrh := hide (hhd.1 hbig)
    have dd : decide ((2147483647 : Int) < (m : Int)) = true := by simp; omega
    clear hhd hbig
    go_enter Tryz.func23, Tryz.ntmps23
    go_wp2_with fail
    rw [show w.alloc (.cells #[.int .i64 0, .slice none 0 0, .slice none 0 0, .slice none 0 0] 27) = W0 from unhide HX0]
    refine (unhide HW).mono ?_
    rintro e wa ⟨rfl, ha, ta⟩
    go_wp2_with fail
    refine (fail_calls g rn 8 _ ha).mono ?_
    rintro e w1 ⟨rfl, h1, tb⟩
    rw [← unhide hrh] at h1
    have t1 := ta.trans tb
    clear ha ta tb hrh
  case' neg =>
    have hrh := hide (hhd.2 hbig)
    have dd : decide ((2147483647 : Int) < (m : Int)) = false := by simp; omega
    clear hhd hbig
    go_enter Tryz.func23, Tryz.ntmps23
    go_wp2_with fail
    rw [show w.alloc (.cells #[.int .i64 0, .slice none 0 0, .slice none 0 0, .slice none 0 0] 27) = W0 from unhide HX0]
    refine (unhide HW).mono ?_
    rintro e w1 ⟨rfl, h1, t1⟩
    rw [← unhide hrh] at h1
    clear hrh
  all_goals
    have q1 := t1.row (by omega) q0
    have T1 := t0.trans t1
    have z1 := t1.below.size
    clear t0 t1 q0
    go_wp2_with fail
    have g2 := al1 w1 (.cells #[.int .i64 (m : Int), .slice none 0 0, .slice none 0 0, .slice none 0 0] 27)
    have q2 := (Below.heap_alloc w1 (.cells #[.int .i64 (m : Int), .slice none 0 0, .slice none 0 0, .slice none 0 0] 27) w.heap.size (by omega)).trans q1
    have h2 := h1.alloc (.cells #[.int .i64 (m : Int), .slice none 0 0, .slice none 0 0, .slice none 0 0] 27)
    have T2 := T1.alloc (by omega) (.cells #[.int .i64 (m : Int), .slice none 0 0, .slice none 0 0, .slice none 0 0] 27)
    have z2 : (w1.alloc (.cells #[.int .i64 (m : Int), .slice none 0 0, .slice none 0 0, .slice none 0 0] 27)).heap.size = w1.heap.size + 1 := by simp
    refine (unhide DA (w1.alloc (.cells #[.int .i64 (m : Int), .slice none 0 0, .slice none 0 0, .slice none 0 0] 27)) h2).mono ?_
    generalize w1.alloc (.cells #[.int .i64 (m : Int), .slice none 0 0, .slice none 0 0, .slice none 0 0] 27) = W2 at *
    generalize hG : w1.heap.size = G at *
    rintro e w3 ⟨x1, k1, rfl, hk1, hx1, row1, h3, t3⟩
    have g3 := t3.row (by omega) g2
    have q3 := t3.row (by omega) q2
    have T3 := T2.trans t3
    have z3 := t3.below.size
    have c3 := (sig_cell g3).1 1 _ rfl
    have f3 := (sig_cell g3).2 1
    have HK1 := hide hk1
    clear g2 q1 q2 h1 h2 T1 T2 t3 hk1
    go_wp2_with fail
    have g4 := heap_setCell_same w3 G 1 _ _ (.slice (some ⟨x1, 0, none⟩) k1 k1) g3
    have q4 := (heap_setCell_other w3 ⟨G, 1, none⟩ w.heap.size (.slice (some ⟨x1, 0, none⟩) k1 k1) (by show _ ≠ G; omega)).trans q3
    have row1b := (heap_setCell_other w3 ⟨G, 1, none⟩ x1 (.slice (some ⟨x1, 0, none⟩) k1 k1) (by show _ ≠ G; omega)).trans row1
    have h4 := h3.other (o := 1) (G := G) (by omega) (.slice (some ⟨x1, 0, none⟩) k1 k1)
    have T4 := T3.setNew (G := G) (o := 1) (by omega) (by omega) (.slice (some ⟨x1, 0, none⟩) k1 k1)
    have z4 : (w3.setCell ⟨G, 1, none⟩ (.slice (some ⟨x1, 0, none⟩) k1 k1)).heap.size = w3.heap.size := World.size_setCell _ _ _
    refine (unhide DB (w3.setCell ⟨G, 1, none⟩ (.slice (some ⟨x1, 0, none⟩) k1 k1)) h4).mono ?_
    generalize w3.setCell ⟨G, 1, none⟩ (.slice (some ⟨x1, 0, none⟩) k1 k1) = W4 at *
    rintro e w5 ⟨x2, k2, rfl, hk2, hx2, row2, h5, t5⟩
    have g5 := t5.row (by omega) g4
    have q5 := t5.row (by omega) q4
    have row1c := t5.row (by omega) row1b
    have T5 := T4.trans t5
    have z5 := t5.below.size
    have c5 := (sig_cell g5).1 2 _ rfl
    have f5 := (sig_cell g5).2 2
    have HK2 := hide hk2
    have hx1z : x1 < w3.heap.size := (Array.getElem?_eq_some_iff.1 row1).1
    clear g3 g4 q3 q4 h3 h4 T3 T4 t5 hk2 c3 f3 row1 row1b
    go_wp2_with fail
    have g6 := heap_setCell_same w5 G 2 _ _ (.slice (some ⟨x2, 0, none⟩) k2 k2) g5
    have q6 := (heap_setCell_other w5 ⟨G, 2, none⟩ w.heap.size (.slice (some ⟨x2, 0, none⟩) k2 k2) (by show _ ≠ G; omega)).trans q5
    have row1d := (heap_setCell_other w5 ⟨G, 2, none⟩ x1 (.slice (some ⟨x2, 0, none⟩) k2 k2) (by show _ ≠ G; omega)).trans row1c
    have row2b := (heap_setCell_other w5 ⟨G, 2, none⟩ x2 (.slice (some ⟨x2, 0, none⟩) k2 k2) (by show _ ≠ G; omega)).trans row2
    have h6 := h5.other (o := 2) (G := G) (by omega) (.slice (some ⟨x2, 0, none⟩) k2 k2)
    have T6 := T5.setNew (G := G) (o := 2) (by omega) (by omega) (.slice (some ⟨x2, 0, none⟩) k2 k2)
    have z6 : (w5.setCell ⟨G, 2, none⟩ (.slice (some ⟨x2, 0, none⟩) k2 k2)).heap.size = w5.heap.size := World.size_setCell _ _ _
    refine (unhide DC (w5.setCell ⟨G, 2, none⟩ (.slice (some ⟨x2, 0, none⟩) k2 k2)) h6).mono ?_
    generalize w5.setCell ⟨G, 2, none⟩ (.slice (some ⟨x2, 0, none⟩) k2 k2) = W6 at *
    rintro e w7 ⟨x3, k3, rfl, hk3, hx3, row3, h7, t7⟩
    have g7 := t7.row (by omega) g6
    have q7 := t7.row (by omega) q6
    have row1e := t7.row (by omega) row1d
    have row2c := t7.row (by omega) row2b
    have T7 := T6.trans t7
    have z7 := t7.below.size
    have c7 := (sig_cell g7).1 3 _ rfl
    have f7 := (sig_cell g7).2 3
    have HK3 := hide hk3
    clear g5 g6 q5 q6 h5 h6 T5 T6 t7 hk3 c5 f5 row1c row1d row2 row2b
    go_wp2_with fail
    have g8 := heap_setCell_same w7 G 3 _ _ (.slice (some ⟨x3, 0, none⟩) k3 k3) g7
    have q8 := (heap_setCell_other w7 ⟨G, 3, none⟩ w.heap.size (.slice (some ⟨x3, 0, none⟩) k3 k3) (by show _ ≠ G; omega)).trans q7
    have row1f := (heap_setCell_other w7 ⟨G, 3, none⟩ x1 (.slice (some ⟨x3, 0, none⟩) k3 k3) (by show _ ≠ G; omega)).trans row1e
    have row2d := (heap_setCell_other w7 ⟨G, 3, none⟩ x2 (.slice (some ⟨x3, 0, none⟩) k3 k3) (by show _ ≠ G; omega)).trans row2c
    have row3b := (heap_setCell_other w7 ⟨G, 3, none⟩ x3 (.slice (some ⟨x3, 0, none⟩) k3 k3) (by show _ ≠ G; omega)).trans row3
    have h8 := h7.other (o := 3) (G := G) (by omega) (.slice (some ⟨x3, 0, none⟩) k3 k3)
    have T8 := T7.setNew (G := G) (o := 3) (by omega) (by omega) (.slice (some ⟨x3, 0, none⟩) k3 k3)
    refine (failed_calls g rc (w7.setCell ⟨G, 3, none⟩ (.slice (some ⟨x3, 0, none⟩) k3 k3)) h8).mono ?_
    generalize w7.setCell ⟨G, 3, none⟩ (.slice (some ⟨x3, 0, none⟩) k3 k3) = W8 at *
    rintro e w9 ⟨rfl, rfl⟩
    have c80 := (sig_cell q8).1 0 _ rfl
    have c81 := (sig_cell q8).1 1 _ rfl
    have c82 := (sig_cell q8).1 2 _ rfl
    have c83 := (sig_cell q8).1 3 _ rfl
    have f8 := (sig_cell q8).2
    have d80 : w9.cell? ⟨G, 0, none⟩ = some (.int .i64 (m : Int)) := (sig_cell g8).1 0 _ rfl
    have d81 : w9.cell? ⟨G, 1, none⟩ = some (.slice (some ⟨x1, 0, none⟩) k1 k1) := (sig_cell g8).1 1 _ rfl
    have d82 : w9.cell? ⟨G, 2, none⟩ = some (.slice (some ⟨x2, 0, none⟩) k2 k2) := (sig_cell g8).1 2 _ rfl
    have d83 : w9.cell? ⟨G, 3, none⟩ = some (.slice (some ⟨x3, 0, none⟩) k3 k3) := (sig_cell g8).1 3 _ rfl
    have Q8 := hide q8
    have H8 := hide h8
    have hRg : w.heap.size ≠ g := by omega
    clear g7 q7 h7 T7 c7 f7 row1e row2c row3 q8 g8
    by_cases he : rc.err = 0
    · have ee : (rc.err != 0) = false := by simpa using he
      rw [ee]
      go_wp2
      have W4 : ∀ v0 v1 v2 v3 : Value, Turned g w ((((w9.setCell ⟨w.heap.size, 0, none⟩ v0).setCell ⟨w.heap.size, 1, none⟩ v1).setCell ⟨w.heap.size, 2, none⟩ v2).setCell ⟨w.heap.size, 3, none⟩ v3) ∧ RdAt ((((w9.setCell ⟨w.heap.size, 0, none⟩ v0).setCell ⟨w.heap.size, 1, none⟩ v1).setCell ⟨w.heap.size, 2, none⟩ v2).setCell ⟨w.heap.size, 3, none⟩ v3) g rc ∧ ∀ k o, k ≠ w.heap.size → w9.heap[k]? = some o → ((((w9.setCell ⟨w.heap.size, 0, none⟩ v0).setCell ⟨w.heap.size, 1, none⟩ v1).setCell ⟨w.heap.size, 2, none⟩ v2).setCell ⟨w.heap.size, 3, none⟩ v3).heap[k]? = some o := fun v0 v1 v2 v3 =>
        ⟨(((T8.setNew (Nat.le_refl _) (by omega) _).setNew (Nat.le_refl _) (by omega) _).setNew (Nat.le_refl _) (by omega) _).setNew (Nat.le_refl _) (by omega) _,
          ((((unhide H8).other (Ne.symm hRg) _).other (Ne.symm hRg) _).other (Ne.symm hRg) _).other (Ne.symm hRg) _,
          fun k o hk ho => by
            rw [heap_setCell_other _ _ _ _ (by show k ≠ _; exact hk), heap_setCell_other _ _ _ _ (by show k ≠ _; exact hk), heap_setCell_other _ _ _ _ (by show k ≠ _; exact hk), heap_setCell_other _ _ _ _ (by show k ≠ _; exact hk)]; exact ho⟩
      refine bodyPost_ret (results_cell_row rfl _ _ w.heap.size _ _ _ _ rfl (set4 _ _ _ _ _ _ _ _ _ _ _ (unhide Q8)) Tryz.underlying27 rfl (unhide HI)) rfl ⟨_, rfl, (W4 _ _ _ _).2.1, (W4 _ _ _ _).1, fun hh => absurd he hh, fun _ => ⟨_, _, _, rfl, ⟨_, _, rfl, unhide HK1, by omega, (W4 _ _ _ _).2.2 _ _ (by omega) row1f⟩, ⟨_, _, rfl, unhide HK2, by omega, (W4 _ _ _ _).2.2 _ _ (by omega) row2d⟩, ⟨_, _, rfl, unhide HK3, by omega, (W4 _ _ _ _).2.2 _ _ (by omega) row3b⟩⟩⟩
    · have ee : (rc.err != 0) = true := by simpa using he
      rw [ee]
      go_wp2
      refine bodyPost_ret (results_cell_row rfl _ _ w.heap.size _ _ _ _ rfl (set4 _ _ _ _ _ _ _ _ _ _ _ (unhide Q8)) Tryz.underlying27 rfl (unhide HI)) rfl ⟨_, rfl, ((((unhide H8).other (Ne.symm hRg) _).other (Ne.symm hRg) _).other (Ne.symm hRg) _).other (Ne.symm hRg) _, (((T8.setNew (Nat.le_refl _) (by omega) _).setNew (Nat.le_refl _) (by omega) _).setNew (Nat.le_refl _) (by omega) _).setNew (Nat.le_refl _) (by omega) _, fun _ => rfl, fun hh => absurd hh he⟩
end Go.Proofs.YtocibklkpnblgaaGreatDoor

namespace Go.Proofs.YtocibklkpnblgaaGreatDoor
open Go.RowKit
set_option linter.unusedSimpArgs false
set_option linter.unusedVariables false

theorem pBig_snoc (m b k : Nat) (hb : b < 256) : pBig (m * 256 + b) (k + 1) = pBig m k ++ [UInt8.ofNat b] := by
  unfold pBig
  rw [List.range_succ, List.map_append]
  congr 1
  · apply List.map_congr_left
    intro i hi
    have hi : i < k := List.mem_range.1 hi
    rw [show k + 1 - 1 - i = (k - 1 - i) + 1 by omega, Nat.mul_add, Nat.pow_add, Nat.mul_comm (2 ^ (8 * (k - 1 - i))), ← Nat.div_div_eq_div_mul, show (m * 256 + b) / 2 ^ (8 * 1) = m by omega]
  · simp only [List.map_cons, List.map_nil, Nat.add_sub_cancel, Nat.sub_self, Nat.mul_zero, Nat.pow_zero, Nat.div_one]
    congr 1
    apply UInt8.toNat.inj
    simp only [UInt8.toNat_ofNat']
    omega
theorem pBig_pNum : ∀ (k : Nat) (l : List UInt8), l.length = k → pBig (pNum l) k = l
  | 0, l, h => by rw [List.eq_nil_of_length_eq_zero h]; rfl
  | k + 1, l, h => by
    obtain ⟨a, b, rfl⟩ : ∃ a b, l = a ++ [b] := ⟨l.dropLast, l.getLast (by intro h0; rw [h0] at h; cases h), (List.dropLast_concat_getLast _).symm⟩
    have ha : a.length = k := by simpa using h
    rw [pNum_snoc, pBig_snoc _ _ _ b.toNat_lt, pBig_pNum k a ha]; simp
theorem pNum_pBig : ∀ (k n : Nat), n < 256 ^ k → pNum (pBig n k) = n
  | 0, n, h => by
    have : n = 0 := by simpa using h
    subst this; rfl
  | k + 1, n, h => by
    have e : n = n / 256 * 256 + n % 256 := by omega
    have h2 : n / 256 < 256 ^ k := by rw [Nat.pow_succ] at h; omega
    rw [e, pBig_snoc _ _ _ (by omega), pNum_snoc, pNum_pBig k _ h2]
    simp only [UInt8.toNat_ofNat']
    omega

theorem Rd.take_ok (r : Rd) (n : Nat) (h : (r.take n).2.err = 0) : r.err = 0 ∧ r.rest = (r.take n).1 ++ (r.take n).2.rest ∧ (r.take n).1.length = n := by
  unfold Rd.take at *
  split at h
  · rename_i h0; exact absurd h h0
  · rename_i h0
    split at h
    · cases h
    · rename_i h1
      rw [if_neg h0, if_neg h1]
      exact ⟨by omega, (List.take_append_drop _ _).symm, by simp; omega⟩
theorem Rd.num_ok (r : Rd) (n : Nat) (h : (r.num n).2.err = 0) : r.err = 0 ∧ r.rest = pBig (r.num n).1 n ++ (r.num n).2.rest := by
  obtain ⟨h0, h1, h2⟩ := r.take_ok n h
  refine ⟨h0, ?_⟩
  show r.rest = pBig (pNum (r.take n).1) n ++ _
  rw [pBig_pNum n _ h2]; exact h1
theorem Rd.fail_bad (r : Rd) (e : Int) (he : e ≠ 0) : (r.fail e).err ≠ 0 := by
  unfold Rd.fail
  split
  · exact he
  · assumption
theorem Rd.len_ok (r : Rd) (most : Int) (h : (r.len most).2.err = 0) : r.err = 0 ∧ r.rest = pBig (r.len most).1 4 ++ (r.len most).2.rest := by
  unfold Rd.len at *
  split at h
  · exact absurd h (Rd.fail_bad _ _ (by decide))
  · rename_i hc
    simp only [if_neg hc]
    exact r.num_ok 4 h
theorem Rd.text_ok (r : Rd) (most : Int) (h : (r.text most).2.err = 0) : r.err = 0 ∧ r.rest = pText4 (r.text most).1 ++ (r.text most).2.rest := by
  obtain ⟨h0, h1, h2⟩ := Rd.take_ok _ _ h
  obtain ⟨h3, h4⟩ := r.len_ok most h0
  refine ⟨h3, ?_⟩
  rw [h4, h1, pText4, List.append_assoc]
  show _ = pBig ((r.len most).2.take (r.len most).1).1.length 4 ++ _
  rw [h2]; rfl
theorem Rd.digests_ok (r : Rd) (most : Int) (h : (r.digests most).2.err = 0) : r.err = 0 ∧ r.rest = pDigests (r.digests most).1 ++ (r.digests most).2.rest := by
  obtain ⟨h0, h1, h2⟩ := Rd.take_ok _ _ h
  obtain ⟨h3, h4⟩ := r.len_ok most h0
  refine ⟨h3, ?_⟩
  rw [h4, h1, pDigests, List.append_assoc]
  show _ = pBig (((r.len most).2.take (32 * (r.len most).1)).1.length / 32) 4 ++ _
  rw [h2, Nat.mul_div_cancel_left _ (by decide)]; rfl
theorem Rd.head_ok (r : Rd) (h : r.head.err = 0) : r.err = 0 ∧ (r.num 4).1 ≤ 2147483647 ∧ r.rest = pBig (r.num 4).1 4 ++ r.head.rest := by
  unfold Rd.head at *
  split at h
  · exact absurd h (Rd.fail_bad _ _ (by decide))
  · rename_i hc
    simp only [if_neg hc]
    have := r.num_ok 4 h
    exact ⟨this.1, by omega, this.2⟩
theorem Rd.sig_ok (r : Rd) (h : r.d3.2.err = 0) : r.err = 0 ∧ (r.num 4).1 ≤ 2147483647 ∧ r.rest = pSig ((r.num 4).1 : Int) r.d1.1 r.d2.1 r.d3.1 ++ r.d3.2.rest := by
  obtain ⟨a3, b3⟩ := r.d2.2.digests_ok 32 h
  obtain ⟨a2, b2⟩ := r.d1.2.digests_ok 32 a3
  obtain ⟨a1, b1⟩ := r.head.digests_ok 32 a2
  obtain ⟨a0, c0, b0⟩ := r.head_ok a1
  refine ⟨a0, c0, ?_⟩
  have b3' : r.d2.2.rest = pDigests r.d3.1 ++ r.d3.2.rest := b3
  have b2' : r.d1.2.rest = pDigests r.d2.1 ++ r.d2.2.rest := b2
  have b1' : r.head.rest = pDigests r.d1.1 ++ r.d1.2.rest := b1
  rw [b0, b1', b2', b3', pSig, show ((r.num 4).1 : Int) % 4294967296 = ((r.num 4).1 : Int) by omega, Int.toNat_natCast]
  simp only [List.append_assoc]
theorem Rd.end_ok (r : Rd) (h : r.end' = 0) : r.err = 0 ∧ r.rest = [] := by
  unfold Rd.end' at h
  split at h
  · rename_i h0; exact absurd h h0
  · rename_i h0
    split at h
    · cases h
    · rename_i h1; exact ⟨by omega, by simpa using h1⟩
end Go.Proofs.YtocibklkpnblgaaGreatDoor
