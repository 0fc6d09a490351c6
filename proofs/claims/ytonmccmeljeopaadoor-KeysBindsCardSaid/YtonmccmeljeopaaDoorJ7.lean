/-
  AN UPDATE AND A STOP AS ROWS; A PART OF A ROW STORED.
-/
/-
  THE DOCUMENT's New OF LAYER 6 WITH ITS LOG.
-/
/-
  UNLIKE DOMAINS OR PARTS HAVE UNLIKE INPUTS.
-/
/-
  WHAT A LOG WITHOUT A CLASH SAYS OF A KEY's WORD AND OF WHAT IS OPENED.
-/
/-
  WHAT A LOG WITHOUT A CLASH SAYS OF A SIGNATURE THAT IS VERIFIED UNDER A SIGNER's ROOT.
-/
/-
  slices.Clone OF A LIST OF DIGESTS, by the library's contract.
-/
/-
  A ROW STORED INTO A BLOCK THAT WAS JUST MADE: the world behind it is a letter of which all is known. Over whatever program.
-/
/-
  WHAT A SIGNER's Sign RETURNS with one of its keys, where there is no log.
-/
/-
  WHAT A SIGNER's Sign RETURNS with one of its keys, where there is no log.
-/
/-
  == OF A DIGEST WITH ITSELF.
-/
import Derived.Test.YtonmccmeljeopaaDoorJ4
import Derived.Test.YtonmccmeljeopaaDoorJ6
import Derived.Test.YtonmccmeljeopaaDoorJ5
import Derived.Test.YtonmccmeljeopaaDoorJ3
import Derived.Test.YtonmccmeljeopaaDoorJ1
import Derived.Shelf.SlicesE.Clone
import Derived.Test.YtonmccmeljeopaaDoorJ0
import Derived.Laws.Rows
import Derived.Deep.DeepCutAuto
namespace Go.Proofs.YtonmccmeljeopaaDoor
open Go Go.RowKit
set_option linter.unusedSimpArgs false
set_option linter.unusedVariables false

/-- An update's cells. -/
def updc (home : Nat) (a b : List UInt8) (cs : Array Value) : Array Value := #[Value.int .u32 (home : Int)] ++ bc a ++ bc b ++ cs
theorem updc_size (home : Nat) (a b : List UInt8) (ha : a.length = 32) (hb : b.length = 32) (cs : Array Value) (hc : cs.size = 4) : (updc home a b cs).size = 69 := by simp [updc, bc_size, ha, hb, hc]
theorem updc_home (home : Nat) (a b : List UInt8) (cs : Array Value) : (updc home a b cs)[0]? = some (.int .u32 (home : Int)) := by simp [updc, Array.getElem?_append]
theorem updc_old (home : Nat) (a b : List UInt8) (ha : a.length = 32) (hb : b.length = 32) (cs : Array Value) (w : World) (g : Nat) (t : TypeId) (hg : w.heap[g]? = some (.cells (updc home a b cs) t (0, 0))) : w.rangeAt g 1 (Lib.byteCells a) := fun i u hu => by
  have hi : i < a.length := by have := (List.getElem?_eq_some_iff.1 hu).1; rwa [Lib.byteCells_length] at this
  rw [cell_of_row _ _ _ _ _ _ hg]
  unfold updc
  rw [Array.getElem?_append_left (by simp [bc_size, ha, hb]; omega), Array.getElem?_append_left (by simp [bc_size, ha]; omega), Array.getElem?_append_right (by simp)]
  rw [show 1 + i - (#[Value.int .u32 (home : Int)] : Array Value).size = i by simp]
  simpa [bc] using hu
theorem updc_new (home : Nat) (a b : List UInt8) (ha : a.length = 32) (hb : b.length = 32) (cs : Array Value) (w : World) (g : Nat) (t : TypeId) (hg : w.heap[g]? = some (.cells (updc home a b cs) t (0, 0))) : w.rangeAt g 33 (Lib.byteCells b) := fun i u hu => by
  have hi : i < b.length := by have := (List.getElem?_eq_some_iff.1 hu).1; rwa [Lib.byteCells_length] at this
  rw [cell_of_row _ _ _ _ _ _ hg]
  unfold updc
  rw [Array.getElem?_append_left (by simp [bc_size, ha, hb]; omega), Array.getElem?_append_right (by simp [bc_size, ha])]
  rw [show 33 + i - ((#[Value.int .u32 (home : Int)] : Array Value) ++ bc a).size = i by simp [bc_size, ha]]
  simpa [bc] using hu
theorem updc_sig (home : Nat) (a b : List UInt8) (ha : a.length = 32) (hb : b.length = 32) (cs : Array Value) (hc : cs.size = 4) (w : World) (g : Nat) (t : TypeId) (hg : w.heap[g]? = some (.cells (updc home a b cs) t (0, 0))) : w.rangeAt g 65 cs.toList := fun i u hu => by
  rw [cell_of_row _ _ _ _ _ _ hg]
  unfold updc
  rw [Array.getElem?_append_right (by simp [bc_size, ha, hb])]
  rw [show 65 + i - ((#[Value.int .u32 (home : Int)] : Array Value) ++ bc a ++ bc b).size = i by simp [bc_size, ha, hb]]
  simpa using hu
theorem updc_one (home : Nat) (a b : List UInt8) (cs : Array Value) (h : cs.all (·.oneCell') = true) : (updc home a b cs).all (·.oneCell') = true := by
  unfold updc
  rw [Array.all_append, Array.all_append, Array.all_append, bc_oneCell, bc_oneCell, h]
  simp [Value.oneCell']
/-- A stop's cells. -/
def stopc (home : Nat) (a : List UInt8) (x : Int) (cs : Array Value) : Array Value := #[Value.int .u32 (home : Int)] ++ bc a ++ #[Value.int .i64 x] ++ cs
theorem stopc_size (home : Nat) (a : List UInt8) (ha : a.length = 32) (x : Int) (cs : Array Value) (hc : cs.size = 4) : (stopc home a x cs).size = 38 := by simp [stopc, bc_size, ha, hc]
theorem stopc_home (home : Nat) (a : List UInt8) (x : Int) (cs : Array Value) : (stopc home a x cs)[0]? = some (.int .u32 (home : Int)) := by simp [stopc, Array.getElem?_append]
theorem stopc_who (home : Nat) (a : List UInt8) (ha : a.length = 32) (x : Int) (cs : Array Value) : (stopc home a x cs)[33]? = some (.int .i64 x) := by
  unfold stopc
  rw [Array.getElem?_append_left (by simp [bc_size, ha]), Array.getElem?_append_right (by simp [bc_size, ha])]
  rw [show 33 - ((#[Value.int .u32 (home : Int)] : Array Value) ++ bc a).size = 0 by simp [bc_size, ha]]
  rfl
theorem stopc_key (home : Nat) (a : List UInt8) (ha : a.length = 32) (x : Int) (cs : Array Value) (w : World) (g : Nat) (t : TypeId) (hg : w.heap[g]? = some (.cells (stopc home a x cs) t (0, 0))) : w.rangeAt g 1 (Lib.byteCells a) := fun i u hu => by
  have hi : i < a.length := by have := (List.getElem?_eq_some_iff.1 hu).1; rwa [Lib.byteCells_length] at this
  rw [cell_of_row _ _ _ _ _ _ hg]
  unfold stopc
  rw [Array.getElem?_append_left (by simp [bc_size, ha]; omega), Array.getElem?_append_left (by simp [bc_size, ha]; omega), Array.getElem?_append_right (by simp)]
  rw [show 1 + i - (#[Value.int .u32 (home : Int)] : Array Value).size = i by simp]
  simpa [bc] using hu
theorem stopc_sig (home : Nat) (a : List UInt8) (ha : a.length = 32) (x : Int) (cs : Array Value) (hc : cs.size = 4) (w : World) (g : Nat) (t : TypeId) (hg : w.heap[g]? = some (.cells (stopc home a x cs) t (0, 0))) : w.rangeAt g 34 cs.toList := fun i u hu => by
  rw [cell_of_row _ _ _ _ _ _ hg]
  unfold stopc
  rw [Array.getElem?_append_right (by simp [bc_size, ha])]
  rw [show 34 + i - ((#[Value.int .u32 (home : Int)] : Array Value) ++ bc a ++ #[Value.int .i64 x]).size = i by simp [bc_size, ha]]
  simpa using hu
theorem stopc_one (home : Nat) (a : List UInt8) (x : Int) (cs : Array Value) (h : cs.all (·.oneCell') = true) : (stopc home a x cs).all (·.oneCell') = true := by
  unfold stopc
  rw [Array.all_append, Array.all_append, Array.all_append, bc_oneCell, h]
  simp [Value.oneCell']
/-- A part of a row stored over another one. -/
theorem wpList_store_part {P : Program} {ops : Array Oper} {rest : List Oper} {op : Oper} {a : Act} {w : World} {Q : Exit → Act → World → Prop} (hgd : op.guard = none) (ty : TypeId) (x y : Operand) (ho : op.op = .store ty x y)
    (g o : Nat) (p m s D : Array Value) (t : TypeId) (hx : a.eval x = .pointer (some ⟨g, o, none⟩)) (hy : a.eval y = .agg D) (hp : p.size = o) (hm : m.size = D.size) (hg : w.heap[g]? = some (.cells (p ++ m ++ s) t (0, 0)))
    (hi : (P.info? ty).map (·.size) = some D.size) (h1 : D.all (·.oneCell') = true)
    (h : ∀ w', w'.heap[g]? = some (.cells (p ++ D ++ s) t (0, 0)) → (∀ k, k ≠ g → w'.heap[k]? = w.heap[k]?) → w'.heap.size = w.heap.size → (∀ B, B ≤ g → Below B w w') → wpList P ops Q rest (a.put op.dst undef) w') :
    wpList P ops Q (op :: rest) a w := by
  have hle : o + D.size ≤ (p ++ m ++ s).size := by simp only [Array.size_append]; omega
  have th : w.there g o D.size := by
    intro j hj
    refine ⟨?_, frozen_of_row _ _ _ _ _ hg⟩
    rw [cell_of_row _ _ _ _ _ _ hg]
    have : o + j < (p ++ m ++ s).size := by omega
    rw [Array.getElem?_eq_getElem this]; rfl
  refine wpList_store_mid hgd ty x y ho g o D hx hy th hi h1 ?_
  obtain ⟨r1, r2, r3, r4⟩ := setCells_heap g t D.toList o (p ++ m ++ s) w hg (by simpa using hle)
  refine h _ ?_ r2 r3 r4
  rw [r1]
  congr 2
  apply Array.ext'
  have e1 : (p ++ m ++ s).toList.take o = p.toList := by
    rw [Array.toList_append, Array.toList_append, List.append_assoc, List.take_left' (by simpa using hp)]
  have e2 : (p ++ m ++ s).toList.drop (o + D.toList.length) = s.toList := by
    rw [Array.toList_append, List.drop_left' (by simp [hp, hm])]
  rw [e1, e2]
  simp
theorem set_head (x y : Value) (A : Array Value) : (#[x] ++ A).setIfInBounds 0 y = #[y] ++ A := by
  apply Array.ext'
  simp
theorem set_at (p : Array Value) (x y : Value) (A : Array Value) (o : Nat) (h : p.size = o) : (p ++ #[x] ++ A).setIfInBounds o y = p ++ #[y] ++ A := by
  subst h
  apply Array.ext'
  simp
theorem updc_set (home h2 : Nat) (a b : List UInt8) (cs : Array Value) : (updc home a b cs).setIfInBounds 0 (.int .u32 (h2 : Int)) = updc h2 a b cs := by
  unfold updc
  rw [Array.append_assoc, Array.append_assoc, set_head, Array.append_assoc, Array.append_assoc]
theorem stopc_set (home h2 : Nat) (a : List UInt8) (x : Int) (cs : Array Value) : (stopc home a x cs).setIfInBounds 0 (.int .u32 (h2 : Int)) = stopc h2 a x cs := by
  unfold stopc
  rw [Array.append_assoc, Array.append_assoc, set_head, Array.append_assoc, Array.append_assoc]
theorem stopc_set_who (home : Nat) (a : List UInt8) (ha : a.length = 32) (x y : Int) (cs : Array Value) : (stopc home a x cs).setIfInBounds 33 (.int .i64 y) = stopc home a y cs := by
  unfold stopc
  exact set_at _ _ _ _ _ (by simp [bc_size, ha])
end Go.Proofs.YtonmccmeljeopaaDoor

namespace Go.Proofs.YtonmccmeljeopaaDoor
open Go Go.RowKit
set_option linter.unusedSimpArgs false
set_option linter.unusedVariables false

theorem rsgc_info (seed : List UInt8) (h : seed.length = 32) (n : Int) (v : Value) : (Tryd.prog.info? 33).map (·.size) = some (sgc seed n v).size := by rw [sgc_size seed h]; kernel_rfl
theorem sgc_set33 (seed : List UInt8) (h : seed.length = 32) (n : Int) (v v' : Value) : (sgc seed n v).setIfInBounds 33 v' = sgc seed n v' := by
  obtain ⟨a0, a1, a2, a3, a4, a5, a6, a7, a8, a9, a10, a11, a12, a13, a14, a15, a16, a17, a18, a19, a20, a21, a22, a23, a24, a25, a26, a27, a28, a29, a30, a31, rfl⟩ := list32 seed h
  rfl
/-- What the keys of a signer note. -/
def WAll (seed : List UInt8) (n : Nat) (J : List (List UInt8)) : Prop := ∀ j, j < n → WNoted seed j 64 J ∧ wIn (pubs seed j 64) ∈ J
theorem WNoted.mono {seed : List UInt8} {x n : Nat} {I J : List (List UInt8)} (h : WNoted seed x n I) (hs : ∀ s ∈ I, s ∈ J) : WNoted seed x n J := fun j hj => ⟨hs _ (h j hj).1, hs _ (h j hj).2⟩
set_option maxHeartbeats 4000000 in
set_option maxRecDepth 100000 in
theorem rnew6Q_calls (seed : List UInt8) (h : seed.length = 32) (L : Nat) (S : Nat → Prop) (I : List (List UInt8)) (hI : I.length ≤ 100000) (w : World) (hL : RLogAt w L S I) :
    Calls Tryd.prog 7 #[.pointer (some ⟨L, 0, none⟩), .agg (bc seed)] w fun e w' => ∃ p c S' I', e = .returned (.agg (sgc seed 0 (.slice p 16 c))) ∧ DL w' p (pLeaves seed) ∧ RLogAt w' L S' I' ∧ RBut S w w' ∧ (∀ k, S' k → S k ∨ w.heap.size ≤ k) ∧ Out p S' ∧ (∀ s ∈ I, s ∈ I') ∧ WAll seed 16 I' ∧ I'.length ≤ I.length + 2064 := by
  have A3 := hide (al3 w (.cells (bc seed) 23) (.cells sg0 33) (.cells sg0 33))
  have b3 := bel3 w (.cells (bc seed) 23) (.cells sg0 33) (.cells sg0 33)
  have sX : (((w.alloc (.cells (bc seed) 23)).alloc (.cells sg0 33)).alloc (.cells sg0 33)).heap.size = w.heap.size + 1 + 1 + 1 := by simp
  have his := digInfo seed h
  have hso := bc_oneCell seed
  have CW := hide fun (k : Nat) (hk : k < 16) S I hI W hL => rwordQ_calls seed h ((k : Nat) : Int) k (by omega) L S I hI W hL
  have e0 : (#[] : Array Value) ++ bc (List.replicate 32 0) ++ #[Value.int .i64 0, .slice none 0 0] = sg0 := by unfold sg0 sgc; simp
  have e1 : (#[] : Array Value) ++ bc seed ++ #[Value.int .i64 0, .slice none 0 0] = sgc seed 0 (.slice none 0 0) := by unfold sgc; simp
  have hms : (bc (List.replicate 32 (0 : UInt8))).size = (bc seed).size := by rw [bc_size, bc_size, h]; rfl
  have HOLD := hide hL.old
  have HII := hide hI
  have Hs := hide h
  have LX := hide (hL.below b3)
  have hw0 : Hid (∀ j, (pWord seed j).length = 32) := hide (pWord_length seed)
  have hwv : Hid (∀ J : List (List UInt8), ∀ k, WAll seed k J → ∀ J', (∀ s ∈ J, s ∈ J') → WNoted seed k 64 J' → wIn (pubs seed k 64) ∈ J' → WAll seed (k + 1) J') := hide fun J k h1 J' h2 h3 h4 j hj => by
    by_cases e : j = k
    · rw [e]; exact ⟨h3, h4⟩
    · exact ⟨(h1 j (by omega)).1.mono h2, h2 _ (h1 j (by omega)).2⟩
  have hpl : Hid (pLeaves seed = (List.range 16).map (pWord seed)) := hide rfl
  clear hL hI
  go_enter Tryd.func7, Tryd.ntmps7
  go_upto_region 2 with fail
  change Code.wp _ _ _ _ (((w.alloc (.cells (bc seed) 23)).alloc (.cells sg0 33)).alloc (.cells sg0 33))
  obtain ⟨X, hX⟩ : ∃ X, ((w.alloc (.cells (bc seed) 23)).alloc (.cells sg0 33)).alloc (.cells sg0 33) = X := ⟨_, rfl⟩
  rw [hX] at A3 b3 sX LX
  rw [hX]
  obtain ⟨N, hN⟩ : ∃ N, w.heap.size = N := ⟨_, rfl⟩
  have HN := hide hN
  have Qs := hide (unhide A3).1
  have Qz := hide (unhide A3).2.1
  have Qt := hide (unhide A3).2.2
  have hb3 := hide b3
  rw [hN] at Qs Qz Qt sX HOLD
  simp only [hN]
  have SX := hide sX
  clear hX A3 b3 sX hN
  go_wp2_with (first
    | (refine wpList_load_row rfl 23 (.tmp 3) rfl N rfl 23 _ (0, 0) _ (unhide Qs) Tryd.underlying23 rfl his ?_)
    | (refine wpList_store_part rfl 23 (.tmp 8) (.tmp 7) rfl (N + 1 + 1) 0 #[] (bc (List.replicate 32 0)) #[.int .i64 0, .slice none 0 0] (bc seed) 33 rfl rfl rfl hms (by rw [e0]; exact unhide Qt) his hso ?_; intro w1 t1 o1 s1 b1; rw [e1] at t1; have QT := hide t1; have QS1 := hide ((o1 N (by omega)).trans (unhide Qs)); have QZ := hide ((o1 (N + 1) (by omega)).trans (unhide Qz)); have HO1 := hide o1; have HS1 := hide s1; have HB1 := hide (b1 (N + 1 + 1) (Nat.le_refl _)); clear t1 o1 s1 b1))
  clear e0 e1 hms
  have L1 := hide ((unhide LX).kept (w' := w1) (fun k hk => unhide HO1 k (fun e => by have := unhide HOLD _ hk; omega)) (by rw [unhide HS1]; exact Nat.le_refl _))
  have R1 : Hid (RBut S w w1) := hide ((RBut.of_below (unhide hb3)).then_below (unhide HB1) (by rw [unhide HN]; omega))
  go_loopw [6] (fun i wr => ∃ (k : Nat) (v : Value) (S' : Nat → Prop) (I' : List (List UInt8)), k ≤ 16 ∧ i = .int .i64 (k : Int) ∧ Hid (wr.heap[N]? = some (.cells (bc seed) 23 (0, 0))) ∧ Hid (wr.heap[N + 1]? = some (.cells sg0 33 (0, 0))) ∧ Hid (wr.heap[N + 1 + 1]? = some (.cells (sgc seed 0 v) 33 (0, 0))) ∧ Hid (wr.ownsRow (N + 1 + 1 + 1) 23 32 v k (Lib.byteCells ((List.range k).flatMap (pWord seed)))) ∧ Hid (RLogAt wr L S' I') ∧ Hid (RBut S w wr) ∧ Hid (∀ k, S' k → S k ∨ N + 1 + 1 + 1 ≤ k) ∧ Hid (∀ k, v.ownBlock = some k → ¬ S' k) ∧ Hid (∀ s ∈ I, s ∈ I') ∧ Hid (WAll seed k I') ∧ Hid (I'.length ≤ I.length + 129 * k)) (fun i _ => 16 - (intOf i).toNat)
  case atStart => exact ⟨0, .slice none 0 0, S, I, by omega, rfl, QS1, QZ, QT, hide (World.ownsRow_nil _ _ _ _), L1, R1, hide fun k h => .inl h, hide fun k h => by simp [Value.ownBlock] at h, hide fun s h => h, hide fun j h => by omega, hide (by omega)⟩
  case round =>
    obtain ⟨k, v, S1, I1, hk, rfl, qS, qZ, qT, hO, hL1, hB1, hM1, hw1, hI1, hI2, hI3⟩ := hrel
    clear hb3 QT QS1 QZ HO1 HS1 HB1 L1 R1 Qs Qz Qt LX
    have zr : N + 1 + 1 < wr.heap.size := (Array.getElem?_eq_some_iff.1 (unhide qT)).1
    have HZr := hide zr
    have NS : Hid (∀ j, N ≤ j → j < N + 1 + 1 + 1 → ¬ S1 j) := hide fun j h1 h2 h => (unhide hM1 j h).elim (fun h => by have := unhide HOLD _ h; omega) (fun h => by omega)
    by_cases hlt : k < 16
    · have hd : decide ((k : Int) < 16) = true := by simp; omega
      have Hk := hide hlt
      have cw := hide fun W hL => unhide CW k hlt S1 I1 (by have := unhide hI3; have := unhide HII; omega) W hL
      have hfs := hide (flat_snocD (pWord seed) k)
      have hFl := unhide hw0 k
      have hs0 : Hid ((bc (pWord seed k)).size = 32) := hide (by rw [bc_size]; exact hFl)
      have hoF := bc_oneCell (pWord seed k)
      have hwv' := hide (unhide hwv I1 k (unhide hI2))
      generalize pWord seed k = FK at *
      have ct := (cell_of_row _ _ _ _ _ _ (unhide qT)).trans (sgc_leaves seed (unhide Hs) 0 v)
      clear hlt zr hFl
      go_wp2_with fail
      obtain ⟨SS, hSS⟩ : ∃ SS : World → Prop, SS = fun W => W.heap[N]? = some (.cells (bc seed) 23 (0, 0)) := ⟨_, rfl⟩
      have HSS : Hid (∀ W : World, SS W ↔ (W.heap[N]? = some (.cells (bc seed) 23 (0, 0)))) := hide fun W => by rw [hSS]
      clear hSS
      have r0 : Hid (∀ W, SS W → W.heap[N]? = some (.cells (bc seed) 23 (0, 0))) := hide fun W h => (unhide HSS W).1 h
      have hS0 : SS ({ wr with drawn := wr.drawn + 1 } : World) := (unhide HSS _).2 (unhide qS)
      have Sd0 : Below wr.heap.size wr ({ wr with drawn := wr.drawn + 1 } : World) := ⟨rfl, rfl, rfl, Nat.le_refl _, fun _ _ => rfl⟩
      have Sdz : ({ wr with drawn := wr.drawn + 1 } : World).heap = wr.heap := rfl
      refine wp_region_held (S := SS) mixed ?_
      obtain ⟨d0, hd0⟩ : ∃ d, { wr with drawn := wr.drawn + 1 } = d := ⟨_, rfl⟩
      rw [hd0] at Sd0 hS0 Sdz
      rw [hd0]
      have qSd := hide ((Below.at Sd0 (by have := unhide HZr; omega) (unhide qS)))
      have qZd := hide ((Below.at Sd0 (by have := unhide HZr; omega) (unhide qZ)))
      have qTd := hide ((Below.at Sd0 (by have := unhide HZr; omega) (unhide qT)))
      have od := hide (owns_at (unhide hO) (fun k e => Sd0.block k ((unhide hO).lt k e).2))
      have Ld := hide ((unhide hL1).below Sd0)
      have Rd := hide ((unhide hB1).then_below Sd0 (unhide hB1).size)
      have zd : Hid (N + 1 + 1 < d0.heap.size) := hide (Nat.lt_of_lt_of_le (unhide HZr) Sd0.size)
      have hvs : Hid (∀ k, v.ownBlock = some k → ¬ S1 k ∧ k < d0.heap.size ∧ N + 1 + 1 + 1 ≤ k) := hide fun k e => ⟨unhide hw1 k e, ((unhide od).lt k e).2, ((unhide od).lt k e).1⟩
      clear hd0 ct Sd0 Sdz
      refine wpAnyH_take (i := 0) (v := .pointer (some ⟨N + 1 + 1, 33, none⟩)) rfl (by kernel_rfl) (by kernel_rfl) (by kernel_rfl) (fun _ _ _ h => h) (.inl ⟨by kernel_rfl, fun W _ => by go_simp⟩) hS0 ?_
      refine wpAnyH_take (i := 2) rfl (by kernel_rfl) (by kernel_rfl) (by kernel_rfl) (fun _ _ _ h => h) (.inl ⟨rfl, fun _ _ => rfl⟩) hS0 ?_
      refine wpAnyH_take (i := 3) rfl (by kernel_rfl) (by kernel_rfl) (by kernel_rfl) (fun _ _ _ h => h) (yields_row (by kernel_rfl) 23 (.tmp 3) rfl N (by kernel_rfl) 23 _ (0, 0) _ (unhide r0) Tryd.underlying23 rfl his) hS0 ?_
      refine wpAnyH_take (i := 4) (v := .int .i64 (k : Int)) rfl (by kernel_rfl) (by kernel_rfl) (by kernel_rfl) (fun _ _ _ h => h) (.inl ⟨by kernel_rfl, fun W _ => by go_simp⟩) hS0 ?_
      have Hs0 := hide hS0
      clear hS0
      refine wpAnyH_two 1 5 _ _ (by kernel_rfl) rfl rfl ?_ ?_
      · have ct := (cell_of_row _ _ _ _ _ _ (unhide qTd)).trans (sgc_leaves seed (unhide Hs) 0 v)
        go_wp2
        refine ⟨unhide Hs0, ?_⟩
        refine wpAnyH_one 5 _ (by kernel_rfl) rfl ?_
        clear ct
        go_wp2_with fail
        refine (unhide cw _ (unhide Ld)).mono ?_
        rintro e w4 ⟨rfl, S4, I4, L4, B4, M4, mo4, nt4, le4⟩
        have qS4 := hide ((B4.block N (by have := unhide zd; omega) (unhide NS N (by omega) (by omega))).trans (unhide qSd))
        have qZ4 := hide ((B4.block (N + 1) (by have := unhide zd; omega) (unhide NS (N + 1) (by omega) (by omega))).trans (unhide qZd))
        have qT4 := hide ((B4.block (N + 1 + 1) (by have := unhide zd; omega) (unhide NS (N + 1 + 1) (by omega) (by omega))).trans (unhide qTd))
        have o4 := hide (owns_at (unhide od) (fun k e => B4.block k (unhide hvs k e).2.1 (unhide hvs k e).1))
        have hv4 : Hid (∀ k, v.ownBlock = some k → ¬ S4 k) := hide fun k e h => (M4 k h).elim (unhide hvs k e).1 (fun h2 => by have := (unhide hvs k e).2.1; omega)
        have R4 := hide ((unhide Rd).trans B4 (fun k h => (unhide hM1 k h).imp_right (fun h2 => by rw [unhide HN]; omega)))
        have M5 : Hid (∀ k, S4 k → S k ∨ N + 1 + 1 + 1 ≤ k) := hide fun k h => (M4 k h).elim (unhide hM1 k) (fun h2 => .inr (by have := unhide zd; omega))
        have z4 : Hid (N + 1 + 1 < w4.heap.size) := hide (Nat.lt_of_lt_of_le (unhide zd) B4.size)
        have HL4 := hide L4
        have Hmo4 := hide mo4
        have Hnt4 := hide nt4
        have Hle4 := hide le4
        have Hs4 := hide ((unhide HSS w4).2 (unhide qS4))
        clear L4 B4 M4 mo4 nt4 le4
        go_wp2
        refine ⟨unhide Hs4, ?_⟩
        refine wpAnyH_one 6 _ (by kernel_rfl) rfl ?_
        go_wp2_with (refine wpList_build_one rfl 24 23 (.tmp 18) rfl 32 32 (by decide) (by decide) (bc FK) rfl (unhide hs0) Tryd.underlying24 digRowInfoD ?_)
        have hSA : SS (w4.alloc (.cells (bc FK) 23)) := (unhide HSS _).2 ((Below.heap_alloc w4 (.cells (bc FK) 23) _ (by have := unhide z4; omega)).trans (unhide qS4))
        refine ⟨hSA, ?_⟩
        refine wpAnyH_one 7 _ (by kernel_rfl) rfl ?_
        refine wpList_append_rowD rfl 24 23 (.tmp 14) (.tmp 19) rfl 32 32 (by decide) (by decide) Tryd.underlying24 digRowInfoD (N + 1 + 1 + 1) v k _ rfl w4 (unhide o4) (by have := unhide z4; omega) (bc FK) (unhide hs0) hoF rfl (by have := unhide Hk; omega) ?_
        intro v' w5 o5 b5 k5 a5
        obtain ⟨g5, c5, hv5⟩ := slice_of o5
        have z5 : N + 1 + 1 < w5.heap.size := Nat.lt_of_lt_of_le (unhide z4) b5.size
        have nv : ∀ j, j < N + 1 + 1 + 1 → some j ≠ v.ownBlock := fun j hj e => by have := (unhide hvs j e.symm).2.2; omega
        have qS5 := (k5 N (by have := unhide z4; omega) (nv N (by omega))).trans (unhide qS4)
        have qZ5 := (k5 (N + 1) (by have := unhide z4; omega) (nv (N + 1) (by omega))).trans (unhide qZ4)
        have qT5 := (k5 (N + 1 + 1) (by have := unhide z4; omega) (nv (N + 1 + 1) (by omega))).trans (unhide qT4)
        have hS5 : SS w5 := (unhide HSS _).2 qS5
        have L5 : RLogAt w5 L S4 I4 := (unhide HL4).kept (fun j hj => k5 j ((unhide HL4).old j hj) (fun e => unhide hv4 j e.symm hj)) b5.size
        have R5 := hide ((unhide R4).then_below b5 (by rw [unhide HN]; omega))
        have n5 : ∀ j, v'.ownBlock = some j → ¬ S4 j ∧ N + 1 + 1 + 1 ≤ j := fun j e => ⟨fun h => by
          rcases a5 with h2 | ⟨g, h2, h3⟩
          · exact unhide hv4 j (h2.symm.trans e) h
          · rw [h2] at e
            have := Option.some.inj e
            have := (unhide HL4).old j h
            omega, (o5.lt j e).1⟩
        go_wp2
        refine ⟨hS5, ?_⟩
        refine wpAnyH_take (i := 8) (v := .pointer (some ⟨N + 1 + 1, 33, none⟩)) rfl (by kernel_rfl) (by kernel_rfl) (by kernel_rfl) (fun _ _ _ h => h) (.inl ⟨by kernel_rfl, fun W _ => by go_simp⟩) hS5 ?_
        refine wpAnyH_one 9 _ (by kernel_rfl) rfl ?_
        have N5 := hide n5
        have O5 := hide o5
        have Q5S := hide qS5
        have Q5Z := hide qZ5
        have Q5T := hide qT5
        have HL5 := hide L5
        have f5 := frozen_of_row w5 (N + 1 + 1) 33 _ _ qT5
        have ct5 : w5.cell? ⟨N + 1 + 1, 33, none⟩ = some v := by rw [cell_of_row _ _ _ _ _ _ qT5]; exact sgc_leaves seed (unhide Hs) 0 v
        subst hv5
        clear qS5 qZ5 qT5 L5 n5 o5 b5 k5 a5 nv hS5
        go_wp2
        have e6 := heap_setCell_same _ _ 33 _ _ (.slice (some ⟨g5, 0, none⟩) (k + 1) c5) (unhide Q5T)
        rw [sgc_set33 seed (unhide Hs)] at e6
        have oth : ∀ j, j ≠ N + 1 + 1 → (w5.setCell ⟨N + 1 + 1, 33, none⟩ (.slice (some ⟨g5, 0, none⟩) (k + 1) c5)).heap[j]? = w5.heap[j]? := fun j hj => heap_setCell_other _ _ _ _ (by show j ≠ N + 1 + 1; exact hj)
        have z6 : (w5.setCell ⟨N + 1 + 1, 33, none⟩ (.slice (some ⟨g5, 0, none⟩) (k + 1) c5)).heap.size = w5.heap.size := by simp
        have R6 := hide ((unhide R5).then_below (Below.setCell (p := ⟨N + 1 + 1, 33, none⟩) (Below.refl (N + 1 + 1) w5) (Nat.le_refl _) (.slice (some ⟨g5, 0, none⟩) (k + 1) c5)) (by rw [unhide HN]; omega))
        have E6 := hide e6
        have OTH := hide oth
        have Z6 := hide z6
        clear e6 oth z6 f5 ct5
        refine ⟨(unhide HSS _).2 ((unhide OTH N (by omega)).trans (unhide Q5S)), wpAnyH_done (by kernel_rfl) ?_ _⟩
        generalize w5.setCell ⟨N + 1 + 1, 33, none⟩ (.slice (some ⟨g5, 0, none⟩) (k + 1) c5) = W6 at *
        go_wp2
        go_roundw
        case rel =>
          refine ⟨k + 1, _, S4, I4, by have := unhide Hk; omega, by go_num, hide ((unhide OTH N (by omega)).trans (unhide Q5S)), hide ((unhide OTH (N + 1) (by omega)).trans (unhide Q5Z)), E6, hide ?_, hide ((unhide HL5).kept (fun j hj => unhide OTH j (fun e => by have := unhide M5 j hj; rw [e] at this; exact this.elim (fun h => by have := unhide HOLD _ h; omega) (fun h => by omega))) (by rw [unhide Z6]; exact Nat.le_refl _)), R6, M5, hide fun j e => (unhide N5 j e).1, hide fun s h => unhide Hmo4 s (unhide hI1 s h), hide (unhide hwv' I4 (unhide Hmo4) (unhide Hnt4).1 (unhide Hnt4).2), hide (by have := unhide Hle4; have := unhide hI3; omega)⟩
          rw [unhide hfs]
          exact owns_at (unhide O5) (fun j e => unhide OTH j (by have := (unhide N5 j e).2; omega))
        case measure => have := unhide Hk; simp [intOf]; omega
      · go_wp2_with fail
        refine (unhide cw _ (unhide Ld)).mono ?_
        rintro e w4 ⟨rfl, S4, I4, L4, B4, M4, mo4, nt4, le4⟩
        have qS4 := hide ((B4.block N (by have := unhide zd; omega) (unhide NS N (by omega) (by omega))).trans (unhide qSd))
        have qZ4 := hide ((B4.block (N + 1) (by have := unhide zd; omega) (unhide NS (N + 1) (by omega) (by omega))).trans (unhide qZd))
        have qT4 := hide ((B4.block (N + 1 + 1) (by have := unhide zd; omega) (unhide NS (N + 1 + 1) (by omega) (by omega))).trans (unhide qTd))
        have o4 := hide (owns_at (unhide od) (fun k e => B4.block k (unhide hvs k e).2.1 (unhide hvs k e).1))
        have hv4 : Hid (∀ k, v.ownBlock = some k → ¬ S4 k) := hide fun k e h => (M4 k h).elim (unhide hvs k e).1 (fun h2 => by have := (unhide hvs k e).2.1; omega)
        have R4 := hide ((unhide Rd).trans B4 (fun k h => (unhide hM1 k h).imp_right (fun h2 => by rw [unhide HN]; omega)))
        have M5 : Hid (∀ k, S4 k → S k ∨ N + 1 + 1 + 1 ≤ k) := hide fun k h => (M4 k h).elim (unhide hM1 k) (fun h2 => .inr (by have := unhide zd; omega))
        have z4 : Hid (N + 1 + 1 < w4.heap.size) := hide (Nat.lt_of_lt_of_le (unhide zd) B4.size)
        have HL4 := hide L4
        have Hmo4 := hide mo4
        have Hnt4 := hide nt4
        have Hle4 := hide le4
        have Hs4 := hide ((unhide HSS w4).2 (unhide qS4))
        clear L4 B4 M4 mo4 nt4 le4
        go_wp2
        refine ⟨unhide Hs4, ?_⟩
        refine wpAnyH_two 1 6 _ _ (by kernel_rfl) rfl rfl ?_ ?_
        · have ct := (cell_of_row _ _ _ _ _ _ (unhide qT4)).trans (sgc_leaves seed (unhide Hs) 0 v)
          go_wp2
          refine ⟨unhide Hs4, ?_⟩
          clear ct
          refine wpAnyH_one 6 _ (by kernel_rfl) rfl ?_
          go_wp2_with (refine wpList_build_one rfl 24 23 (.tmp 18) rfl 32 32 (by decide) (by decide) (bc FK) rfl (unhide hs0) Tryd.underlying24 digRowInfoD ?_)
          have hSA : SS (w4.alloc (.cells (bc FK) 23)) := (unhide HSS _).2 ((Below.heap_alloc w4 (.cells (bc FK) 23) _ (by have := unhide z4; omega)).trans (unhide qS4))
          refine ⟨hSA, ?_⟩
          refine wpAnyH_one 7 _ (by kernel_rfl) rfl ?_
          refine wpList_append_rowD rfl 24 23 (.tmp 14) (.tmp 19) rfl 32 32 (by decide) (by decide) Tryd.underlying24 digRowInfoD (N + 1 + 1 + 1) v k _ rfl w4 (unhide o4) (by have := unhide z4; omega) (bc FK) (unhide hs0) hoF rfl (by have := unhide Hk; omega) ?_
          intro v' w5 o5 b5 k5 a5
          obtain ⟨g5, c5, hv5⟩ := slice_of o5
          have z5 : N + 1 + 1 < w5.heap.size := Nat.lt_of_lt_of_le (unhide z4) b5.size
          have nv : ∀ j, j < N + 1 + 1 + 1 → some j ≠ v.ownBlock := fun j hj e => by have := (unhide hvs j e.symm).2.2; omega
          have qS5 := (k5 N (by have := unhide z4; omega) (nv N (by omega))).trans (unhide qS4)
          have qZ5 := (k5 (N + 1) (by have := unhide z4; omega) (nv (N + 1) (by omega))).trans (unhide qZ4)
          have qT5 := (k5 (N + 1 + 1) (by have := unhide z4; omega) (nv (N + 1 + 1) (by omega))).trans (unhide qT4)
          have hS5 : SS w5 := (unhide HSS _).2 qS5
          have L5 : RLogAt w5 L S4 I4 := (unhide HL4).kept (fun j hj => k5 j ((unhide HL4).old j hj) (fun e => unhide hv4 j e.symm hj)) b5.size
          have R5 := hide ((unhide R4).then_below b5 (by rw [unhide HN]; omega))
          have n5 : ∀ j, v'.ownBlock = some j → ¬ S4 j ∧ N + 1 + 1 + 1 ≤ j := fun j e => ⟨fun h => by
            rcases a5 with h2 | ⟨g, h2, h3⟩
            · exact unhide hv4 j (h2.symm.trans e) h
            · rw [h2] at e
              have := Option.some.inj e
              have := (unhide HL4).old j h
              omega, (o5.lt j e).1⟩
          go_wp2
          refine ⟨hS5, ?_⟩
          refine wpAnyH_take (i := 8) (v := .pointer (some ⟨N + 1 + 1, 33, none⟩)) rfl (by kernel_rfl) (by kernel_rfl) (by kernel_rfl) (fun _ _ _ h => h) (.inl ⟨by kernel_rfl, fun W _ => by go_simp⟩) hS5 ?_
          refine wpAnyH_one 9 _ (by kernel_rfl) rfl ?_
          have N5 := hide n5
          have O5 := hide o5
          have Q5S := hide qS5
          have Q5Z := hide qZ5
          have Q5T := hide qT5
          have HL5 := hide L5
          have f5 := frozen_of_row w5 (N + 1 + 1) 33 _ _ qT5
          have ct5 : w5.cell? ⟨N + 1 + 1, 33, none⟩ = some v := by rw [cell_of_row _ _ _ _ _ _ qT5]; exact sgc_leaves seed (unhide Hs) 0 v
          subst hv5
          clear qS5 qZ5 qT5 L5 n5 o5 b5 k5 a5 nv hS5
          go_wp2
          have e6 := heap_setCell_same _ _ 33 _ _ (.slice (some ⟨g5, 0, none⟩) (k + 1) c5) (unhide Q5T)
          rw [sgc_set33 seed (unhide Hs)] at e6
          have oth : ∀ j, j ≠ N + 1 + 1 → (w5.setCell ⟨N + 1 + 1, 33, none⟩ (.slice (some ⟨g5, 0, none⟩) (k + 1) c5)).heap[j]? = w5.heap[j]? := fun j hj => heap_setCell_other _ _ _ _ (by show j ≠ N + 1 + 1; exact hj)
          have z6 : (w5.setCell ⟨N + 1 + 1, 33, none⟩ (.slice (some ⟨g5, 0, none⟩) (k + 1) c5)).heap.size = w5.heap.size := by simp
          have R6 := hide ((unhide R5).then_below (Below.setCell (p := ⟨N + 1 + 1, 33, none⟩) (Below.refl (N + 1 + 1) w5) (Nat.le_refl _) (.slice (some ⟨g5, 0, none⟩) (k + 1) c5)) (by rw [unhide HN]; omega))
          have E6 := hide e6
          have OTH := hide oth
          have Z6 := hide z6
          clear e6 oth z6 f5 ct5
          refine ⟨(unhide HSS _).2 ((unhide OTH N (by omega)).trans (unhide Q5S)), wpAnyH_done (by kernel_rfl) ?_ _⟩
          generalize w5.setCell ⟨N + 1 + 1, 33, none⟩ (.slice (some ⟨g5, 0, none⟩) (k + 1) c5) = W6 at *
          go_wp2
          go_roundw
          case rel =>
            refine ⟨k + 1, _, S4, I4, by have := unhide Hk; omega, by go_num, hide ((unhide OTH N (by omega)).trans (unhide Q5S)), hide ((unhide OTH (N + 1) (by omega)).trans (unhide Q5Z)), E6, hide ?_, hide ((unhide HL5).kept (fun j hj => unhide OTH j (fun e => by have := unhide M5 j hj; rw [e] at this; exact this.elim (fun h => by have := unhide HOLD _ h; omega) (fun h => by omega))) (by rw [unhide Z6]; exact Nat.le_refl _)), R6, M5, hide fun j e => (unhide N5 j e).1, hide fun s h => unhide Hmo4 s (unhide hI1 s h), hide (unhide hwv' I4 (unhide Hmo4) (unhide Hnt4).1 (unhide Hnt4).2), hide (by have := unhide Hle4; have := unhide hI3; omega)⟩
            rw [unhide hfs]
            exact owns_at (unhide O5) (fun j e => unhide OTH j (by have := (unhide N5 j e).2; omega))
          case measure => have := unhide Hk; simp [intOf]; omega
        · go_wp2_with (refine wpList_build_one rfl 24 23 (.tmp 18) rfl 32 32 (by decide) (by decide) (bc FK) rfl (unhide hs0) Tryd.underlying24 digRowInfoD ?_)
          have hSA : SS (w4.alloc (.cells (bc FK) 23)) := (unhide HSS _).2 ((Below.heap_alloc w4 (.cells (bc FK) 23) _ (by have := unhide z4; omega)).trans (unhide qS4))
          refine ⟨hSA, ?_⟩
          refine wpAnyH_one 1 _ (by kernel_rfl) rfl ?_
          have ctA := (cell_of_row _ _ _ _ _ _ ((Below.heap_alloc w4 (.cells (bc FK) 23) _ (by have := unhide z4; omega)).trans (unhide qT4))).trans (sgc_leaves seed (unhide Hs) 0 v)
          change wpList _ _ _ _ _ (w4.alloc (.cells (bc FK) 23))
          obtain ⟨WA, hWA⟩ : ∃ W, w4.alloc (.cells (bc FK) 23) = W := ⟨_, rfl⟩
          have HWA := hide hWA
          rw [hWA] at ctA hSA
          rw [hWA]
          clear hWA
          go_wp2
          refine ⟨hSA, ?_⟩
          rw [← unhide HWA] at hSA ⊢
          clear ctA HWA
          refine wpAnyH_one 7 _ (by kernel_rfl) rfl ?_
          refine wpList_append_rowD rfl 24 23 (.tmp 14) (.tmp 19) rfl 32 32 (by decide) (by decide) Tryd.underlying24 digRowInfoD (N + 1 + 1 + 1) v k _ rfl w4 (unhide o4) (by have := unhide z4; omega) (bc FK) (unhide hs0) hoF rfl (by have := unhide Hk; omega) ?_
          intro v' w5 o5 b5 k5 a5
          obtain ⟨g5, c5, hv5⟩ := slice_of o5
          have z5 : N + 1 + 1 < w5.heap.size := Nat.lt_of_lt_of_le (unhide z4) b5.size
          have nv : ∀ j, j < N + 1 + 1 + 1 → some j ≠ v.ownBlock := fun j hj e => by have := (unhide hvs j e.symm).2.2; omega
          have qS5 := (k5 N (by have := unhide z4; omega) (nv N (by omega))).trans (unhide qS4)
          have qZ5 := (k5 (N + 1) (by have := unhide z4; omega) (nv (N + 1) (by omega))).trans (unhide qZ4)
          have qT5 := (k5 (N + 1 + 1) (by have := unhide z4; omega) (nv (N + 1 + 1) (by omega))).trans (unhide qT4)
          have hS5 : SS w5 := (unhide HSS _).2 qS5
          have L5 : RLogAt w5 L S4 I4 := (unhide HL4).kept (fun j hj => k5 j ((unhide HL4).old j hj) (fun e => unhide hv4 j e.symm hj)) b5.size
          have R5 := hide ((unhide R4).then_below b5 (by rw [unhide HN]; omega))
          have n5 : ∀ j, v'.ownBlock = some j → ¬ S4 j ∧ N + 1 + 1 + 1 ≤ j := fun j e => ⟨fun h => by
            rcases a5 with h2 | ⟨g, h2, h3⟩
            · exact unhide hv4 j (h2.symm.trans e) h
            · rw [h2] at e
              have := Option.some.inj e
              have := (unhide HL4).old j h
              omega, (o5.lt j e).1⟩
          go_wp2
          refine ⟨hS5, ?_⟩
          refine wpAnyH_take (i := 8) (v := .pointer (some ⟨N + 1 + 1, 33, none⟩)) rfl (by kernel_rfl) (by kernel_rfl) (by kernel_rfl) (fun _ _ _ h => h) (.inl ⟨by kernel_rfl, fun W _ => by go_simp⟩) hS5 ?_
          refine wpAnyH_one 9 _ (by kernel_rfl) rfl ?_
          have N5 := hide n5
          have O5 := hide o5
          have Q5S := hide qS5
          have Q5Z := hide qZ5
          have Q5T := hide qT5
          have HL5 := hide L5
          have f5 := frozen_of_row w5 (N + 1 + 1) 33 _ _ qT5
          have ct5 : w5.cell? ⟨N + 1 + 1, 33, none⟩ = some v := by rw [cell_of_row _ _ _ _ _ _ qT5]; exact sgc_leaves seed (unhide Hs) 0 v
          subst hv5
          clear qS5 qZ5 qT5 L5 n5 o5 b5 k5 a5 nv hS5
          go_wp2
          have e6 := heap_setCell_same _ _ 33 _ _ (.slice (some ⟨g5, 0, none⟩) (k + 1) c5) (unhide Q5T)
          rw [sgc_set33 seed (unhide Hs)] at e6
          have oth : ∀ j, j ≠ N + 1 + 1 → (w5.setCell ⟨N + 1 + 1, 33, none⟩ (.slice (some ⟨g5, 0, none⟩) (k + 1) c5)).heap[j]? = w5.heap[j]? := fun j hj => heap_setCell_other _ _ _ _ (by show j ≠ N + 1 + 1; exact hj)
          have z6 : (w5.setCell ⟨N + 1 + 1, 33, none⟩ (.slice (some ⟨g5, 0, none⟩) (k + 1) c5)).heap.size = w5.heap.size := by simp
          have R6 := hide ((unhide R5).then_below (Below.setCell (p := ⟨N + 1 + 1, 33, none⟩) (Below.refl (N + 1 + 1) w5) (Nat.le_refl _) (.slice (some ⟨g5, 0, none⟩) (k + 1) c5)) (by rw [unhide HN]; omega))
          have E6 := hide e6
          have OTH := hide oth
          have Z6 := hide z6
          clear e6 oth z6 f5 ct5
          refine ⟨(unhide HSS _).2 ((unhide OTH N (by omega)).trans (unhide Q5S)), wpAnyH_done (by kernel_rfl) ?_ _⟩
          generalize w5.setCell ⟨N + 1 + 1, 33, none⟩ (.slice (some ⟨g5, 0, none⟩) (k + 1) c5) = W6 at *
          go_wp2
          go_roundw
          case rel =>
            refine ⟨k + 1, _, S4, I4, by have := unhide Hk; omega, by go_num, hide ((unhide OTH N (by omega)).trans (unhide Q5S)), hide ((unhide OTH (N + 1) (by omega)).trans (unhide Q5Z)), E6, hide ?_, hide ((unhide HL5).kept (fun j hj => unhide OTH j (fun e => by have := unhide M5 j hj; rw [e] at this; exact this.elim (fun h => by have := unhide HOLD _ h; omega) (fun h => by omega))) (by rw [unhide Z6]; exact Nat.le_refl _)), R6, M5, hide fun j e => (unhide N5 j e).1, hide fun s h => unhide Hmo4 s (unhide hI1 s h), hide (unhide hwv' I4 (unhide Hmo4) (unhide Hnt4).1 (unhide Hnt4).2), hide (by have := unhide Hle4; have := unhide hI3; omega)⟩
            rw [unhide hfs]
            exact owns_at (unhide O5) (fun j e => unhide OTH j (by have := (unhide N5 j e).2; omega))
          case measure => have := unhide Hk; simp [intOf]; omega
    · have hkl : k = 16 := by omega
      subst hkl
      have hd : decide (((16 : Nat) : Int) < 16) = false := by decide
      obtain ⟨p, c, rfl, hc, hD⟩ := DL_of_ownsD (pWord seed) (unhide hw0) (unhide hO)
      have HD := hide hD
      have hiC := rsgc_info seed (unhide Hs) 0 (.slice p 16 c)
      have hoC := sgc_one seed 0 p 16 c
      have hzC := sg0_size seed (unhide Hs) 0 (.slice p 16 c)
      have HP : Hid (∀ a, p = some a → N + 1 + 1 + 1 ≤ a.block) := hide fun a e => ((unhide hO).lt a.block (by rw [e]; rfl)).1
      have hw1' : Hid (Out p S1) := hide fun a e => unhide hw1 a.block (by rw [e]; rfl)
      obtain ⟨C, hC⟩ : ∃ C, sgc seed 0 (.slice p 16 c) = C := ⟨_, rfl⟩
      rw [hC] at hiC hoC hzC qT
      have HC := hide hC
      clear hlt hD zr hO hC hc
      go_wp2_with (first
        | (refine wpList_load_row rfl 33 (.tmp 5) rfl (N + 1 + 1) rfl 33 _ (0, 0) _ (unhide qT) Tryd.underlying33 rfl hiC ?_)
        | (refine wpList_store_row rfl 33 (.tmp 4) (.tmp 22) rfl (N + 1) _ rfl rfl 33 _ (unhide qZ) hiC hzC hoC ?_))
      refine bodyPost_ret (results_cell_row rfl _ _ (N + 1) _ _ _ _ rfl (setRow_heap _ _ _ _ _ _ (unhide qZ)) Tryd.underlying33 rfl hiC) rfl ⟨p, c, S1, I1, by rw [unhide HC], ?_, (unhide hL1).kept (fun k hk => setRow_other _ _ _ _ (fun e => unhide NS (N + 1) (by omega) (by omega) (by rw [← e]; exact hk))) (by rw [setRow_size]; exact Nat.le_refl _), ?_, fun k h => (unhide hM1 k h).imp_right (fun h2 => by rw [unhide HN]; omega), unhide hw1', unhide hI1, unhide hI2, by have := unhide hI3; omega⟩
      · rw [unhide hpl]; refine (unhide HD).rbut (S := fun k => k = N + 1) ⟨rfl, rfl, rfl, by rw [setRow_size]; exact Nat.le_refl _, fun k hk hn => setRow_other _ _ _ _ hn⟩ (fun _ a e hs => by have := unhide HP a e; omega)
      · have r := unhide hB1
        exact ⟨r.os, r.tape, r.output, by rw [setRow_size]; exact r.size, fun k hk hn => (setRow_other _ _ _ _ (by rw [unhide HN] at hk; omega)).trans (r.block k hk hn)⟩
end Go.Proofs.YtonmccmeljeopaaDoor

namespace Go.Proofs.YtonmccmeljeopaaDoor
open Go.RowKit
set_option linter.unusedSimpArgs false
set_option linter.unusedVariables false

theorem pBig1_inj {n m : Nat} (hn : n < 256) (hm : m < 256) (h : pBig n 1 = pBig m 1) : n = m := by
  have h0 := congrArg (fun l => l.getD 0 0) h
  simp [pBig] at h0
  have h1 := congrArg UInt8.toNat h0
  rw [UInt8.toNat_ofNat', UInt8.toNat_ofNat'] at h1
  omega
theorem pBig4_inj {n m : Nat} (hn : n < 4294967296) (hm : m < 4294967296) (h : pBig n 4 = pBig m 4) : n = m := by
  have g : ∀ i, i < 4 → n / 2 ^ (8 * (3 - i)) % 256 = m / 2 ^ (8 * (3 - i)) % 256 := fun i hi => by
    have h0 := congrArg (fun l => (l.getD i 0).toNat) h
    simp [pBig, hi] at h0
    exact h0
  have a := g 0 (by omega)
  have b := g 1 (by omega)
  have c := g 2 (by omega)
  have d := g 3 (by omega)
  simp at a b c d
  omega
theorem flatText_inj : ∀ (ps qs : List (List UInt8)), (∀ p ∈ ps, p.length < 4294967296) → (∀ q ∈ qs, q.length < 4294967296) → ps.flatMap pText4 = qs.flatMap pText4 → ps = qs
  | [], [], _, _, _ => rfl
  | [], q :: qs, _, _, h => by
    have := congrArg List.length h
    rw [List.flatMap_cons, List.length_append, pText4_length, List.flatMap_nil, List.length_nil] at this
    omega
  | p :: ps, [], _, _, h => by
    have := congrArg List.length h
    rw [List.flatMap_cons, List.length_append, pText4_length, List.flatMap_nil, List.length_nil] at this
    omega
  | p :: ps, q :: qs, hp, hq, h => by
    have e : ∀ l : List UInt8, pText4 l = pBig l.length 4 ++ l := fun _ => rfl
    rw [List.flatMap_cons, List.flatMap_cons, e, e, List.append_assoc, List.append_assoc] at h
    obtain ⟨h1, h2⟩ := List.append_inj h (by rw [pBig_length, pBig_length])
    have hl := pBig4_inj (hp p (by simp)) (hq q (by simp)) h1
    obtain ⟨h3, h4⟩ := List.append_inj h2 hl
    rw [h3, flatText_inj ps qs (fun x hx => hp x (by simp [hx])) (fun x hx => hq x (by simp [hx])) h4]
theorem pInput_inj {d e : Nat} {ps qs : List (List UInt8)} (hd : d < 256) (he : e < 256) (hp : ∀ p ∈ ps, p.length < 4294967296) (hq : ∀ q ∈ qs, q.length < 4294967296) (h : pInput d ps = pInput e qs) : d = e ∧ ps = qs := by
  unfold pInput at h
  obtain ⟨h1, h2⟩ := List.append_inj h (by rw [pBig_length, pBig_length])
  exact ⟨pBig1_inj hd he h1, flatText_inj ps qs hp hq h2⟩
end Go.Proofs.YtonmccmeljeopaaDoor

namespace Go.Proofs.YtonmccmeljeopaaDoor
open Go Go.RowKit
set_option linter.unusedSimpArgs false
set_option linter.unusedVariables false

theorem apart_of (J : List (List UInt8)) (h : ¬ cnt J < J.length) (s t : List UInt8) (hs : s ∈ J) (ht : t ∈ J) (he : pSum [s] = pSum [t]) : s = t := Classical.byContradiction fun hne => h (cnt_lt J s t hs ht hne he)
theorem wIn_inj {a b : List UInt8} (ha : a.length = 2048) (hb : b.length = 2048) (h : wIn a = wIn b) : a = b := by
  have := (pInput_inj (by decide) (by decide) (by simp [ha]) (by simp [hb]) h).2
  simpa using this
theorem uIn_inj {a b : List UInt8} (ha : a.length = 32) (hb : b.length = 32) (h : uIn a = uIn b) : a = b := by
  have := (pInput_inj (by decide) (by decide) (by simp [ha]) (by simp [hb]) h).2
  simpa using this
theorem sIn_ne {seed : List UInt8} (hs : seed.length = 32) (index i : Nat) (h : sIn seed index i 0 = sIn seed index i 1) : False := by
  have := (pInput_inj (by decide) (by decide) (by simp [hs, pBig_length]) (by simp [hs, pBig_length]) h).2
  simp [pBig] at this
theorem pubs_two (seed : List UInt8) (index k : Nat) : pubs seed index (2 * (k + 1)) = pubs seed index (2 * k) ++ (pubAt seed index (2 * k) ++ pubAt seed index (2 * k + 1)) := by
  rw [show 2 * (k + 1) = 2 * k + 1 + 1 by omega, pubs_succ, pubs_succ, List.append_assoc]
theorem open_pubs (seed : List UInt8) (index : Nat) (e P O : List UInt8) (hO : O.length = 1024) : ∀ k, k ≤ 32 → pOpen e P O k = pubs seed index (2 * k) → ∀ i, i < k → openAt e P O i = pubAt seed index (2 * i) ++ pubAt seed index (2 * i + 1)
  | 0, _, _, i, hi => by omega
  | k + 1, hk, h, i, hi => by
    rw [pOpen_succ, pubs_two] at h
    obtain ⟨h1, h2⟩ := List.append_inj h (by rw [pOpen_length e P O k (by omega), pubs_length]; omega)
    by_cases e' : i = k
    · rw [e']; exact h2
    · exact open_pubs seed index e P O hO k (by omega) h1 i (by omega)
theorem pubAt_even (seed : List UInt8) (index i : Nat) : pubAt seed index (2 * i) = pPublic (pSecret seed index i 0) := by
  unfold pubAt; rw [show 2 * i / 2 = i by omega, show 2 * i % 2 = 0 by omega]
theorem pubAt_odd (seed : List UInt8) (index i : Nat) : pubAt seed index (2 * i + 1) = pPublic (pSecret seed index i 1) := by
  unfold pubAt; rw [show (2 * i + 1) / 2 = i by omega, show (2 * i + 1) % 2 = 1 by omega]
theorem pubs_apart (seed : List UInt8) (hs : seed.length = 32) (index : Nat) (J : List (List UInt8)) (hap : ¬ cnt J < J.length) (hw : WNoted seed index 64 J) (i : Nat) (hi : i < 32) (h : pPublic (pSecret seed index i 0) = pPublic (pSecret seed index i 1)) : False := by
  have w0 := hw (2 * i) (by omega)
  have w1 := hw (2 * i + 1) (by omega)
  rw [show 2 * i / 2 = i by omega, show 2 * i % 2 = 0 by omega] at w0
  rw [show (2 * i + 1) / 2 = i by omega, show (2 * i + 1) % 2 = 1 by omega] at w1
  have h1 := apart_of J hap _ _ w0.2 w1.2 h
  have h2 := uIn_inj (pSecret_length _ _ _ _) (pSecret_length _ _ _ _) h1
  exact sIn_ne hs index i (apart_of J hap _ _ w0.1 w1.1 h2)
theorem part_chunk (seed : List UInt8) (index : Nat) (d : List UInt8) (i : Nat) (hi : i < 32) : chunk (pParts seed index d 32) i = pSecret seed index i (pBit d i) := flat_chunk (partAt seed index d) (fun j => pSecret_length _ _ _ _) 32 i hi
theorem other_chunk (seed : List UInt8) (index : Nat) (d : List UInt8) (i : Nat) (hi : i < 32) : chunk (pOthers seed index d 32) i = pPublic (pSecret seed index i (1 - pBit d i)) := flat_chunk (otherAt seed index d) (fun j => pPublic_length _) 32 i hi
theorem word_open (seed : List UInt8) (index : Nat) (e P O : List UInt8) (hP : P.length = 1024) (hO : O.length = 1024) (J : List (List UInt8)) (hap : ¬ cnt J < J.length) (h1 : wIn (pubs seed index 64) ∈ J) (h2 : wIn (pOpen e P O 32) ∈ J) (h : pWordOf (pOpen e P O 32) = pWord seed index) : ∀ i, i < 32 → openAt e P O i = pubAt seed index (2 * i) ++ pubAt seed index (2 * i + 1) := by
  have h3 := apart_of J hap _ _ h2 h1 h
  have h4 := wIn_inj (pOpen_length e P O 32 (by omega)) (pubs_length _ _ _) h3
  exact open_pubs seed index e P O hO 32 (Nat.le_refl _) h4
theorem binds_pure (seed : List UInt8) (hs : seed.length = 32) (index : Nat) (d e : List UInt8) (J : List (List UInt8)) (hw : WNoted seed index 64 J) (h1 : wIn (pubs seed index 64) ∈ J) (h2 : wIn (pOpen e (pParts seed index d 32) (pOthers seed index d 32) 32) ∈ J)
    (h : pWordOf (pOpen e (pParts seed index d 32) (pOthers seed index d 32) 32) = pWord seed index) (hne : ¬ ∀ j, j < 32 → pBit d j = pBit e j) : cnt J < J.length := by
  refine Classical.byContradiction fun hap => hne fun i hi => ?_
  have ho := word_open seed index e _ _ (pParts_length _ _ _ _) (pOthers_length _ _ _ _) J hap h1 h2 h i hi
  have hb1 := pBit_lt d i
  have hb2 := pBit_lt e i
  refine Classical.byContradiction fun hbe => pubs_apart seed hs index J hap hw i hi ?_
  unfold openAt at ho
  rw [part_chunk seed index d i hi, other_chunk seed index d i hi, pubAt_even, pubAt_odd] at ho
  by_cases e0 : pBit e i = 0
  · rw [if_pos e0, show pBit d i = 1 by omega] at ho
    exact (List.append_inj ho (by rw [pPublic_length, pPublic_length])).1.symm
  · rw [if_neg e0, show pBit d i = 0 by omega] at ho
    exact (List.append_inj ho (by rw [pPublic_length, pPublic_length])).1.symm
theorem open_same (d e P O : List UInt8) : ∀ k, (∀ j, j < k → pBit d j = pBit e j) → pOpen e P O k = pOpen d P O k
  | 0, _ => rfl
  | k + 1, h => by
    rw [pOpen_succ, pOpen_succ, open_same d e P O k (fun j hj => h j (by omega))]
    unfold openAt
    rw [h k (by omega)]
end Go.Proofs.YtonmccmeljeopaaDoor

namespace Go.Proofs.YtonmccmeljeopaaDoor
open Go Go.RowKit
set_option linter.unusedSimpArgs false
set_option linter.unusedVariables false

theorem rIn_inj {a b c d : List UInt8} (ha : a.length = 32) (hb : b.length = 32) (hc : c.length = 32) (hd : d.length = 32) (h : rIn a b = rIn c d) : a = c ∧ b = d := by
  have := (pInput_inj (by decide) (by decide) (by simp [ha, hb]) (by simp [hc, hd]) h).2
  simpa using this
theorem KNoted_at (ds J : List (List UInt8)) (x : Nat) (hx : x < 16) (h : KNoted ds 4 0 J) : ∀ j k, k + j = 4 → KNoted ds k (x / 2 ^ k) J
  | 0, k, e => by
    have e4 : k = 4 := by omega
    rw [e4, show x / 2 ^ 4 = 0 by omega]; exact h
  | j + 1, k, e => by
    obtain ⟨_, h2, h3⟩ := KNoted_at ds J x hx h j (k + 1) (by omega)
    have e2 : x / 2 ^ (k + 1) = x / 2 ^ k / 2 := by rw [Nat.pow_succ, ← Nat.div_div_eq_div_mul]
    rw [e2] at h2 h3
    by_cases hb : x / 2 ^ k % 2 = 1
    · rw [show x / 2 ^ k = 2 * (x / 2 ^ k / 2) + 1 by omega]; exact h3
    · rw [show x / 2 ^ k = 2 * (x / 2 ^ k / 2) by omega]; exact h2
theorem kIn_noted (ds : List (List UInt8)) (hds : ds.length = 16) (J : List (List UInt8)) (x : Nat) (hx : x < 16) (h : KNoted ds 4 0 J) (k : Nat) (hk : k < 4) : kIn (ds.getD x []) x (kPath ds x) k ∈ J := by
  obtain ⟨h1, _, _⟩ := KNoted_at ds J x hx h (3 - k) (k + 1) (by omega)
  have e2 : x / 2 ^ (k + 1) = x / 2 ^ k / 2 := by rw [Nat.pow_succ, ← Nat.div_div_eq_div_mul]
  rw [e2] at h1
  unfold kIn
  rw [kPath_at ds x k hk, kClimb_path ds hds x hx k (by omega)]
  unfold pathAt
  rw [kxor1]
  generalize x / 2 ^ k = B at h1 ⊢
  by_cases hb : B % 2 = 1
  · rw [if_pos hb, if_pos hb]
    rw [show 2 * (B / 2) = B - 1 by omega, show B - 1 + 1 = B by omega] at h1
    exact h1
  · rw [if_neg hb, if_neg hb]
    rw [show 2 * (B / 2) = B by omega] at h1
    exact h1
theorem climb_bound (ds : List (List UInt8)) (hds : ds.length = 16) (h32 : ∀ d ∈ ds, d.length = 32) (leaf : List UInt8) (hl : leaf.length = 32) (x : Nat) (hx : x < 16) (J : List (List UInt8)) (hap : ¬ cnt J < J.length) (hk : ∀ k, k < 4 → kIn leaf x (kPath ds x) k ∈ J) (hn : KNoted ds 4 0 J) (h : kClimb leaf x (kPath ds x) 4 = kRoot ds) : leaf = ds.getD x [] := by
  have hl0 : (ds.getD x []).length = 32 := getD_32 h32 x (by omega)
  have hp : ∀ k, k < 4 → ((kPath ds x).getD k []).length = 32 := fun k hk => by
    rw [kPath_at ds x k hk]; exact pathAt_length ds hds h32 x hx k hk
  have go : ∀ j k, k + j = 4 → kClimb leaf x (kPath ds x) k = kClimb (ds.getD x []) x (kPath ds x) k := by
    intro j
    induction j with
    | zero =>
      intro k e
      have e4 : k = 4 := by omega
      rw [e4, h, kClimb_root ds hds x hx]
    | succ j ih =>
      intro k e
      have h1 := ih (k + 1) (by omega)
      have hk4 : k < 4 := by omega
      have a1 := hk k hk4
      have a2 := kIn_noted ds hds J x hx hn k hk4
      have l1 := kClimb_length leaf x (kPath ds x) hl k
      have l2 := kClimb_length (ds.getD x []) x (kPath ds x) hl0 k
      have l3 := hp k hk4
      unfold kIn at a1 a2
      unfold kClimb at h1
      by_cases hb : x / 2 ^ k % 2 = 1
      · rw [if_pos hb] at a1 a2 h1
        rw [if_pos hb] at h1
        exact (rIn_inj l3 l1 l3 l2 (apart_of J hap _ _ a1 a2 h1)).2
      · rw [if_neg hb] at a1 a2 h1
        rw [if_neg hb] at h1
        exact (rIn_inj l1 l3 l2 l3 (apart_of J hap _ _ a1 a2 h1)).1
  exact go 4 0 rfl
/-- What a signature of one digest says of another one: it is verified only with the same bits told, unless two inputs clash. -/
def kOk (seed : List UInt8) (x : Nat) (d e : List UInt8) : Prop := kClimb (pWordOf (pOpen e (pParts seed x d 32) (pOthers seed x d 32) 32)) x (kPath (pLeaves seed) x) 4 = kRoot (pLeaves seed)
theorem leaf_wordQ (seed : List UInt8) (x : Nat) (hx : x < 16) : (pLeaves seed).getD x [] = pWord seed x := by simp [pLeaves, hx]
theorem kOk_same (seed : List UInt8) (x : Nat) (hx : x < 16) (d e : List UInt8) (hall : ∀ j, j < 32 → pBit d j = pBit e j) : kOk seed x d e := by
  unfold kOk
  rw [open_same d e _ _ 32 hall, open_word, ← leaf_wordQ seed x hx]
  exact kClimb_root _ (pLeaves_len seed) x hx
theorem kOk_clash (seed : List UInt8) (hs : seed.length = 32) (x : Nat) (hx : x < 16) (d e : List UInt8) (J : List (List UInt8)) (hw : WAll seed 16 J) (hv : VNot e (pParts seed x d 32) (pOthers seed x d 32) x (kPath (pLeaves seed) x) J) (hn : KNoted (pLeaves seed) 4 0 J) (hok : kOk seed x d e) (hne : ¬ ∀ j, j < 32 → pBit d j = pBit e j) : cnt J < J.length := by
  refine Classical.byContradiction fun hap => hap ?_
  have h1 := climb_bound (pLeaves seed) (pLeaves_len seed) (pLeaves_32 seed) _ (pOf_length _ _) x hx J hap hv.2.2 hn hok
  rw [leaf_wordQ seed x hx] at h1
  exact binds_pure seed hs x d e J (hw x hx).1 (hw x hx).2 hv.2.1 h1 hne
theorem byte_bits (m n : Nat) (hm : m < 256) (hn : n < 256) (h : ∀ r, r < 8 → m / 2 ^ (7 - r) % 2 = n / 2 ^ (7 - r) % 2) : m = n := by
  have h0 := h 0 (by decide)
  have h1 := h 1 (by decide)
  have h2 := h 2 (by decide)
  have h3 := h 3 (by decide)
  have h4 := h 4 (by decide)
  have h5 := h 5 (by decide)
  have h6 := h 6 (by decide)
  have h7 := h 7 (by decide)
  simp at h0 h1 h2 h3 h4 h5 h6 h7
  omega
/-- The bits told are those of the first four bytes. -/
theorem bits_bytes (d e : List UInt8) : (∀ j, j < 32 → pBit d j = pBit e j) ↔ ∀ i, i < 4 → d.getD i 0 = e.getD i 0 := by
  constructor
  · intro h i hi
    refine UInt8.toNat_inj.1 (byte_bits _ _ (UInt8.toNat_lt _) (UInt8.toNat_lt _) fun r hr => ?_)
    have := h (i * 8 + r) (by omega)
    unfold pBit at this
    rw [show (i * 8 + r) / 8 = i by omega, show (i * 8 + r) % 8 = r by omega] at this
    exact this
  · intro h j hj
    unfold pBit
    rw [h (j / 8) (by omega)]
end Go.Proofs.YtonmccmeljeopaaDoor

namespace Go.Proofs
open Go.Shelf
def Tryd.slClone_ren : Go.Shelf.Ren := ⟨fun | 41 => 28 | n => n, fun | 4 => 4 | 22 => 24 | 23 => 23 | n => n, fun n => n⟩
theorem Tryd.slClone : Go.Proofs.SlLaysE0.n41 Tryd.prog Tryd.slClone_ren := {
  mixed := by kernel_rfl
  f41 := ⟨ "slices.Clone[[]pontoon/api.Digest,pontoon/api.Digest]", by decide, Tryd.func28.trans (congrArg some (by kernel_rfl))⟩
  t4 := Tryd.underlying4
  a4 := Tryd.isAgg4
  z4 := Tryd.sizeOf4
  v4 := Tryd.zeroValue4
  t22 := Tryd.underlying24
  a22 := Tryd.isAgg24
  z22 := Tryd.sizeOf24
  v22 := Tryd.zeroValue24 }
namespace YtonmccmeljeopaaDoor
open Go Go.RowKit
set_option linter.unusedSimpArgs false
set_option linter.unusedVariables false

theorem flat_get : ∀ (ds : List (List UInt8)), (∀ d ∈ ds, d.length = 32) → ∀ i r, i < ds.length → r < 32 → ds.flatten[i * 32 + r]? = (ds.getD i [])[r]?
  | [], _, i, r, hi, _ => by simp at hi
  | d :: ds, h, 0, r, _, hr => by
    have hd := h d (by simp)
    rw [List.flatten_cons, List.getElem?_append_left (by omega)]
    simp
  | d :: ds, h, i + 1, r, hi, hr => by
    have hd := h d (by simp)
    rw [List.flatten_cons, List.getElem?_append_right (by omega), hd, show (i + 1) * 32 + r - 32 = i * 32 + r by omega]
    rw [flat_get ds (fun x hx => h x (by simp [hx])) i r (by simpa using hi) hr]
    simp
theorem flat_len : ∀ (ds : List (List UInt8)), (∀ d ∈ ds, d.length = 32) → ds.flatten.length = 32 * ds.length
  | [], _ => rfl
  | d :: ds, h => by
    rw [List.flatten_cons, List.length_append, h d (by simp), flat_len ds (fun x hx => h x (by simp [hx])), List.length_cons]; omega
theorem byteCells_get (l : List UInt8) (k : Nat) : (Lib.byteCells l)[k]? = l[k]?.map fun b => Value.int .u8 (b.toNat : Int) := by simp [Lib.byteCells]
theorem DL.cells {w : World} {b off : Nat} {ds : List (List UInt8)} (h : DL w (some ⟨b, off, none⟩) ds) (j : Nat) (u : Value) (hu : (Lib.byteCells ds.flatten)[j]? = some u) : w.cell? ⟨b, off + j, none⟩ = some u := by
  have hj : j < 32 * ds.length := by
    have := (List.getElem?_eq_some_iff.1 hu).1
    rwa [Lib.byteCells_length, flat_len ds h.1] at this
  have hi : j / 32 < ds.length := by omega
  obtain ⟨b', off', e, _, hc⟩ := h.2 (by intro h0; rw [h0] at hi; simp at hi)
  cases e
  have h1 := hc (j / 32) hi (j % 32) u (by
    rw [byteCells_get, ← flat_get ds h.1 (j / 32) (j % 32) hi (by omega), ← byteCells_get, show j / 32 * 32 + j % 32 = j by omega]; exact hu)
  rw [show off + j / 32 * 32 + j % 32 = off + j by omega] at h1
  exact h1
theorem DL_of_cells {w : World} {g : Nat} {t : TypeId} {cur : Array Value} {ds : List (List UInt8)} (hd : ∀ d ∈ ds, d.length = 32) (hg : w.heap[g]? = some (.cells cur t (0, 0))) (hc : cur.toList.take (ds.length * 32) = Lib.byteCells ds.flatten) : DL w (some ⟨g, 0, none⟩) ds := by
  refine ⟨hd, fun _ => ⟨g, 0, rfl, (Array.getElem?_eq_some_iff.1 hg).1, fun i hi r u hu => ?_⟩⟩
  have hr : r < 32 := by
    have := (List.getElem?_eq_some_iff.1 hu).1
    rwa [Lib.byteCells_length, getD_32 hd i hi] at this
  rw [Nat.zero_add, cell_of_row _ _ _ _ _ _ hg]
  have h1 : (Lib.byteCells ds.flatten)[i * 32 + r]? = some u := by rw [byteCells_get, flat_get ds hd i r hi hr, ← byteCells_get]; exact hu
  rw [← hc, List.getElem?_take] at h1
  split at h1
  · simpa using h1
  · cases h1
theorem clone_digs (ds : List (List UInt8)) (hlen : ds.length ≤ 1000000) (b off c : Nat) (w : World) (hD : DL w (some ⟨b, off, none⟩) ds) :
    Calls Tryd.prog 28 #[.slice (some ⟨b, off, none⟩) ds.length c] w fun e w' => (∃ g cap, e = .returned (.slice (some ⟨g, 0, none⟩) ds.length cap) ∧ w.heap.size ≤ g ∧ DL w' (some ⟨g, 0, none⟩) ds) ∧ Below w.heap.size w w' := by
  obtain ⟨i0, hi0⟩ : ∃ i, Tryd.prog.info? 23 = some i := by
    cases h : Tryd.prog.info? 23 with
    | none =>
      have : (Tryd.prog.info? 23).map (·.size) = some 32 := by kernel_rfl
      rw [h] at this
      cases this
    | some i => exact ⟨i, rfl⟩
  have hz : i0.zero = some (.agg (bc (List.replicate 32 0))) := by
    have : (Tryd.prog.info? 23).bind (·.zero) = some (.agg (bc (List.replicate 32 0))) := by kernel_rfl
    rw [hi0] at this; exact this
  have hs : i0.size = 32 := by
    have : (Tryd.prog.info? 23).map (·.size) = some 32 := by kernel_rfl
    rw [hi0] at this; simpa using this
  have hy : i0.bytes = 32 := by
    have : (Tryd.prog.info? 23).map (·.bytes) = some 32 := by kernel_rfl
    rw [hi0] at this; simpa using this
  refine (AnyE.slices_Clone Tryd.slClone i0 (.agg (bc (List.replicate 32 0))) 32 32 hi0 hz hs hy (by simp [Value.cells, bc_size]) (by decide) Tryd.sizeOf23 b off ds.length c (Lib.byteCells ds.flatten) w
    (by rw [Lib.byteCells_length, flat_len ds hD.1]; omega) (by unfold maxLen; omega) (by omega) hD.cells (fun u hu => by obtain ⟨x, _, rfl⟩ := List.mem_map.1 hu; rfl)).mono ?_
  rintro e w' ⟨v, rfl, hO, hne, hb⟩
  refine ⟨?_, hb⟩
  rcases hO.2 with ⟨rfl, _⟩ | ⟨g, cap, cur, rfl, hg, hh, _, _, _, hc⟩
  · exact absurd rfl hne
  · exact ⟨g, cap, rfl, hg, DL_of_cells hD.1 hh hc⟩
end YtonmccmeljeopaaDoor
end Go.Proofs

namespace Go.Proofs.YtonmccmeljeopaaDoor
open Go.RowKit
set_option linter.unusedSimpArgs false
set_option linter.unusedVariables false

theorem wpList_store_newV {P : Program} {ops : Array Oper} {rest : List Oper} {op : Oper} {a : Act} {Q : Exit → Act → World → Prop} (hgd : op.guard = none) (ty : TypeId) (x y : Operand) (ho : op.op = .store ty x y)
    (W0 : World) (Z : Array Value) (t : TypeId) (D : Array Value) (hx : a.eval x = .pointer (some ⟨W0.heap.size, 0, none⟩)) (hy : a.eval y = .agg D)
    (hi : (P.info? ty).map (·.size) = some D.size) (hz : Z.size = D.size) (h1 : D.all (·.oneCell') = true)
    (h : ∀ w', w'.heap[W0.heap.size]? = some (.cells D t (0, 0)) → Below W0.heap.size W0 w' → w'.heap.size = W0.heap.size + 1 → wpList P ops Q rest (a.put op.dst undef) w') :
    wpList P ops Q (op :: rest) a (W0.alloc (.cells Z t)) := by
  refine wpList_store_row hgd ty x y ho W0.heap.size D hx hy t Z (al1 _ _) hi hz h1 ?_
  exact h _ (setRow_heap _ _ _ _ _ _ (al1 W0 (.cells Z t))) (below_setRow ((Below.refl _ _).alloc (Nat.le_refl _) _) (Nat.le_refl _) _) (by rw [setRow_size, World.size_alloc])
end Go.Proofs.YtonmccmeljeopaaDoor

namespace Go.Proofs.YtonmccmeljeopaaDoor
open Go Go.RowKit
set_option linter.unusedSimpArgs false
set_option linter.unusedVariables false

theorem results_cell_cell_tmp {fn : Func} {p q u : Tmp} {ty ty' : TypeId} (h : fn.results = #[.cell p ty, .cell q ty', .tmp u]) (tmps : Array Value) (P : Program) (w : World) :
    (results fn tmps).run P w =
      ((asAddr (tmps.getD p undef)).run P w).andThen fun a w₁ => ((loadVar ty a).run P w₁).andThen fun v w₂ => ((asAddr (tmps.getD q undef)).run P w₂).andThen fun b w₃ => ((loadVar ty' b).run P w₃).andThen fun v' w₄ => .ok (.tuple #[v, v', tmps.getD u undef]) w₄ := by
  simp only [results, h]
  simp [Sem.run_bind, Result.andThen]
/-- Two rows of memory and a slot as the three results. -/
theorem results_row_row_tmp {P : Program} {fn : Func} {p q u : Tmp} {ty ty' : TypeId} (h : fn.results = #[.cell p ty, .cell q ty', .tmp u]) (tmps : Array Value) (w : World) (g g' : Nat) (t t' : TypeId) (cs cs' : Array Value) (fr fr' : Nat × Nat) (d d' : TypeDesc)
    (hp : tmps.getD p undef = .pointer (some ⟨g, 0, none⟩)) (hq : tmps.getD q undef = .pointer (some ⟨g', 0, none⟩)) (hg : w.heap[g]? = some (.cells cs t fr)) (hg' : w.heap[g']? = some (.cells cs' t' fr'))
    (hu : P.underlying ty = some d) (hd : (match d with | .struct _ | .array _ _ => true | _ => false) = true) (hi : (P.info? ty).map (·.size) = some cs.size)
    (hu' : P.underlying ty' = some d') (hd' : (match d' with | .struct _ | .array _ _ => true | _ => false) = true) (hi' : (P.info? ty').map (·.size) = some cs'.size) :
    (results fn tmps).run P w = .ok (.tuple #[.agg cs, .agg cs', tmps.getD u undef]) w := by
  rw [results_cell_cell_tmp h, hp, hq]
  simp only [asAddr, Sem.run_pure, Result.andThen_ok, run_loadVar_row w g t ty cs fr d hg hu hd hi, run_loadVar_row w g' t' ty' cs' fr' d' hg' hu' hd' hi']
theorem built_sg3 (seed : List UInt8) (h : seed.length = 32) (n : Int) (p : Option Addr) (l c : Nat) : Tryd.prog.built 31 [(0, .agg (bc seed)), (1, .int .i64 n), (2, .slice p l c)] = some (sgc seed n (.slice p l c)) := by
  obtain ⟨a0, a1, a2, a3, a4, a5, a6, a7, a8, a9, a10, a11, a12, a13, a14, a15, a16, a17, a18, a19, a20, a21, a22, a23, a24, a25, a26, a27, a28, a29, a30, a31, rfl⟩ := list32 seed h
  kernel_rfl
end Go.Proofs.YtonmccmeljeopaaDoor

namespace Go.Proofs.YtonmccmeljeopaaDoor
open Go Go.RowKit
set_option linter.unusedSimpArgs false
set_option linter.unusedVariables false

theorem sgc_set (seed : List UInt8) (h : seed.length = 32) (n m : Int) (v : Value) : (sgc seed n v).setIfInBounds 32 (.int .i64 m) = sgc seed m v := by
  obtain ⟨a0, a1, a2, a3, a4, a5, a6, a7, a8, a9, a10, a11, a12, a13, a14, a15, a16, a17, a18, a19, a20, a21, a22, a23, a24, a25, a26, a27, a28, a29, a30, a31, rfl⟩ := list32 seed h
  rfl
set_option maxHeartbeats 4000000 in
set_option maxRecDepth 100000 in
theorem ksign_calls (seed : List UInt8) (h : seed.length = 32) (x : Nat) (hx : x < 16) (ds : List (List UInt8)) (hds : ds.length = 16) (b off c : Nat) (d : List UInt8) (hd : d.length = 32) (w : World) (hD : DL w (some ⟨b, off, none⟩) ds) (tabs : Tabs w) :
    Calls Tryd.prog 14 #[.agg (sgc seed (x : Int) (.slice (some ⟨b, off, none⟩) 16 c)), .pointer none, .agg (bc d)] w fun e w' => (∃ gc cap cs, e = .returned (.tuple #[.agg (sgc seed ((x : Int) + 1) (.slice (some ⟨gc, 0, none⟩) 16 cap)), .agg cs, .int .i64 0]) ∧ w.heap.size ≤ gc ∧ DL w' (some ⟨gc, 0, none⟩) ds ∧ SigAt w' w.heap.size seed d ds x cs) ∧ Below w.heap.size w w' := by
  obtain ⟨C, hC⟩ : ∃ C, sgc seed (x : Int) (.slice (some ⟨b, off, none⟩) 16 c) = C := ⟨_, rfl⟩
  have hiC := sgc_info seed h (x : Int) (.slice (some ⟨b, off, none⟩) 16 c)
  have hid := digInfo d hd
  rw [hC] at hiC
  have cn : C[32]? = some (.int .i64 (x : Int)) := by rw [← hC]; exact sgc_next seed h _ _
  have cl : C[33]? = some (.slice (some ⟨b, off, none⟩) 16 c) := by rw [← hC]; exact sgc_leaves seed h _ _
  have csd : Hid (∀ (W : World) (g : Nat) (t : TypeId), W.heap[g]? = some (.cells C t (0, 0)) → W.rangeAt g 0 (Lib.byteCells seed)) := hide (by rw [← hC]; exact fun W g t hW => sgc_seed seed h _ _ W g t hW)
  have hcl := hide fun W hW => clone_digs ds (by omega) b off c W hW
  rw [hds] at hcl
  have hbs := hide fun p l cc => built_sg3 seed h (x : Int) p l cc
  have hag := hide fun W hW t => again_calls seed h (x : Int) ds hds (some ⟨b, off, none⟩) c x hx d hd W hW t
  rw [hC] at hag
  have hk := hide fun W => isKey_calls (x : Int) W
  have hkk : (if (0 : Int) ≤ (x : Int) then decide ((x : Int) < 16) else false) = true := by rw [if_pos (by omega)]; simp; omega
  rw [hkk] at hk
  rw [hC]
  have A3 := hide (al3 w (.cells C 31) (.cells (bc d) 23) (.cells sg0 31))
  have HD := hide hD
  have HT := hide tabs
  have Hs := hide h
  have Hx := hide hx
  have Hlen := hide hds
  clear hD tabs hkk hC h hd hds
  obtain ⟨X, hX⟩ : ∃ X, (((w.alloc (.cells C 31)).alloc (.cells (bc d) 23)).alloc (.cells sg0 31)).alloc (.cells sigZ 26) = X := ⟨_, rfl⟩
  have HX := hide hX
  have x3 : Hid (X.heap[w.heap.size + 1 + 1 + 1]? = some (.cells sigZ 26 (0, 0))) := by
    have := al1 (((w.alloc (.cells C 31)).alloc (.cells (bc d) 23)).alloc (.cells sg0 31)) (.cells sigZ 26)
    rw [hX] at this
    exact hide (by simpa using this)
  have xs : X.heap.size = w.heap.size + 1 + 1 + 1 + 1 := by rw [← hX]; simp
  have x0 : X.heap[w.heap.size]? = some (.cells C 31 (0, 0)) := by rw [← hX, Below.heap_alloc _ _ _ (by simp only [World.size_alloc]; omega)]; exact (unhide A3).1
  have x1 : X.heap[w.heap.size + 1]? = some (.cells (bc d) 23 (0, 0)) := by rw [← hX, Below.heap_alloc _ _ _ (by simp only [World.size_alloc]; omega)]; exact (unhide A3).2.1
  have x2 : X.heap[w.heap.size + 1 + 1]? = some (.cells sg0 31 (0, 0)) := by rw [← hX, Below.heap_alloc _ _ _ (by simp only [World.size_alloc]; omega)]; exact (unhide A3).2.2
  have xb : Below w.heap.size w X := by rw [← hX]; exact (bel3 w _ _ _).alloc (by simp; omega) _
  have Xs := hide xs
  have X0 := hide x0
  have X1 := hide x1
  have X2 := hide x2
  have XB := hide xb
  clear xs x0 x1 x2 xb A3 hX
  go_enter Tryd.func14, Tryd.ntmps14
  go_upto_region 1 with fail
  change Code.wp _ _ _ _ ((((w.alloc (.cells C 31)).alloc (.cells (bc d) 23)).alloc (.cells sg0 31)).alloc (.cells sigZ 26))
  rw [unhide HX]
  go_cut [9] (fun p wc => ∃ g gc cap : Nat, p = .pointer (some ⟨g, 0, none⟩) ∧ wc.heap[g]? = some (.cells (sgc seed (x : Int) (.slice (some ⟨gc, 0, none⟩) 16 cap)) 31 (0, 0)) ∧ DL wc (some ⟨gc, 0, none⟩) ds ∧ Below X.heap.size X wc ∧ X.heap.size ≤ g ∧ X.heap.size ≤ gc ∧ g ≠ gc)
  case first =>
    have hS0 : Below X.heap.size X { X with drawn := X.drawn + 1 } := ⟨rfl, rfl, rfl, Nat.le_refl _, fun _ _ => rfl⟩
    have hxs := unhide Xs
    have r0 : Hid (∀ W : World, Below X.heap.size X W → W.heap[w.heap.size]? = some (.cells C 31 (0, 0))) := hide fun W hW => Below.at hW (by omega) (unhide X0)
    have r1 : Hid (∀ W : World, Below X.heap.size X W → W.rangeAt w.heap.size 0 (Lib.byteCells seed)) := hide fun W hW => unhide csd W _ _ (unhide r0 W hW)
    have r2 : Hid (∀ W : World, Below X.heap.size X W → W.cell? ⟨w.heap.size, 32, none⟩ = some (.int .i64 (x : Int))) := hide fun W hW => by rw [cell_of_row _ _ _ _ _ _ (unhide r0 W hW)]; exact cn
    have r3 : Hid (∀ W : World, Below X.heap.size X W → W.cell? ⟨w.heap.size, 33, none⟩ = some (.slice (some ⟨b, off, none⟩) 16 c)) := hide fun W hW => by rw [cell_of_row _ _ _ _ _ _ (unhide r0 W hW)]; exact cl
    clear hxs
    refine wp_region_held (S := fun W => Below X.heap.size X W) mixed ?_
    refine wpAnyH_take (i := 0) rfl (by kernel_rfl) (by kernel_rfl) (by kernel_rfl) (fun _ _ _ h => h) (.inl ⟨rfl, fun _ _ => rfl⟩) hS0 ?_
    refine wpAnyH_take (i := 1) rfl (by kernel_rfl) (by kernel_rfl) (by kernel_rfl) (fun _ _ _ h => h) (yields_mid rfl 23 (.tmp 12) rfl w.heap.size 0 rfl (Lib.byteCells seed) _ (unhide r1) Tryd.underlying23 rfl (by rw [Lib.byteCells_length, unhide Hs]; kernel_rfl)) hS0 ?_
    refine wpAnyH_take (i := 2) rfl (by kernel_rfl) (by kernel_rfl) (by kernel_rfl) (fun _ _ _ h => h) (.inl ⟨rfl, fun _ _ => rfl⟩) hS0 ?_
    refine wpAnyH_take (i := 3) (v := .int .i64 (x : Int)) rfl (by kernel_rfl) (by kernel_rfl) (by kernel_rfl) (fun _ _ _ h => h) (.inl ⟨rfl, fun W hW => by have c2 := unhide r2 W hW; go_simp⟩) hS0 ?_
    refine wpAnyH_take (i := 4) rfl (by kernel_rfl) (by kernel_rfl) (by kernel_rfl) (fun _ _ _ h => h) (.inl ⟨rfl, fun _ _ => rfl⟩) hS0 ?_
    refine wpAnyH_take (i := 5) (v := .slice (some ⟨b, off, none⟩) 16 c) rfl (by kernel_rfl) (by kernel_rfl) (by kernel_rfl) (fun _ _ _ h => h) (.inl ⟨rfl, fun W hW => by have c3 := unhide r3 W hW; go_simp⟩) hS0 ?_
    refine wpAnyH_two 6 8 _ _ (by kernel_rfl) rfl rfl ?_ ?_
    · have hDX := ((unhide HD).below (unhide XB) (Nat.le_refl _)).below hS0 (Nat.le_refl _)
      have HS0 := hide hS0
      clear hS0 r0 r1 r2 r3
      go_wp2_with fail
      refine (unhide hcl _ hDX).mono ?_
      rintro e w1 ⟨⟨gc, cap, rfl, hg, hDg⟩, b1⟩
      have hS1 : Below X.heap.size X w1 := (unhide HS0).trans (b1.mono (Nat.le_refl _))
      go_wp2
      refine ⟨hS1, ?_⟩
      have hb3 := unhide hbs (some ⟨gc, 0, none⟩) 16 cap
      refine wpAnyH_take (i := 7) rfl (by kernel_rfl) (by kernel_rfl) (by kernel_rfl) (fun _ _ _ h => h) (yields_build rfl 31 #[(0, .tmp 13), (1, .tmp 15), (2, .tmp 18)] rfl _ hb3) hS1 ?_
      refine wpAnyH_one 8 _ (by kernel_rfl) rfl ?_
      go_wp2
      refine ⟨hS1.alloc hS1.size _, ?_⟩
      refine wpAnyH_one 9 _ (by kernel_rfl) rfl ?_
      have hsi := sgc_info seed (unhide Hs) (x : Int) (.slice (some ⟨gc, 0, none⟩) 16 cap)
      have hso := sgc_one seed (x : Int) (some ⟨gc, 0, none⟩) 16 cap
      have hsz := sg0_size seed (unhide Hs) (x : Int) (.slice (some ⟨gc, 0, none⟩) 16 cap)
      have hgz : gc < w1.heap.size := by
        obtain ⟨b', off', e', h', _⟩ := hDg.2 (by intro h0; rw [h0] at hDg; have := unhide Hlen; rw [h0] at this; simp at this)
        cases e'; exact h'
      obtain ⟨CC, hCC⟩ : ∃ CC, sgc seed (x : Int) (.slice (some ⟨gc, 0, none⟩) 16 cap) = CC := ⟨_, rfl⟩
      rw [hCC] at hsi hso hsz
      rw [hCC]
      have HCC := hide hCC
      clear hCC hb3
      go_wp2_with (refine wpList_store_newV rfl 31 (.tmp 9) (.tmp 19) rfl w1 sg0 _ CC rfl rfl hsi hsz hso ?_; intro w2 q2 b2 z2)
      have hS2 := hS1.trans (b2.mono hS1.size)
      refine ⟨hS2, wpAnyH_done (by kernel_rfl) ?_ _⟩
      go_wp2
      go_meet
      case rel => exact ⟨w1.heap.size, gc, cap, rfl, by rw [unhide HCC]; exact q2, hDg.below b2 (Nat.le_refl _), hS2, hS1.size, hg, by omega⟩
    · have hDX := ((unhide HD).below (unhide XB) (Nat.le_refl _)).below hS0 (Nat.le_refl _)
      have HS0 := hide hS0
      have HDX := hide hDX
      clear hS0 hDX r0 r1 r2 r3
      go_wp2
      have hSA : Below X.heap.size X ({ X with drawn := X.drawn + 1 }.alloc (.cells sg0 31)) := (unhide HS0).alloc (Nat.le_refl _) _
      have qA := al1 { X with drawn := X.drawn + 1 } (.cells sg0 31)
      have hDA := (unhide HDX).below ((Below.refl _ { X with drawn := X.drawn + 1 }).alloc (Nat.le_refl _) (.cells sg0 31)) (Nat.le_refl _)
      refine ⟨hSA, ?_⟩
      refine wpAnyH_one 6 _ (by kernel_rfl) rfl ?_
      change wpList _ _ _ _ _ ({ X with drawn := X.drawn + 1 }.alloc (.cells sg0 31))
      obtain ⟨Y, hY⟩ : ∃ Y, { X with drawn := X.drawn + 1 }.alloc (.cells sg0 31) = Y := ⟨_, rfl⟩
      rw [hY] at hSA qA hDA
      rw [hY]
      have zA : X.heap.size < Y.heap.size := (Array.getElem?_eq_some_iff.1 qA).1
      clear hY
      go_wp2_with fail
      refine (unhide hcl _ hDA).mono ?_
      rintro e w1 ⟨⟨gc, cap, rfl, hg, hDg⟩, b1⟩
      have hS1 : Below X.heap.size X w1 := hSA.trans (b1.mono hSA.size)
      have q1 : w1.heap[X.heap.size]? = some (.cells sg0 31 (0, 0)) := Below.at b1 zA qA
      have hb3 := unhide hbs (some ⟨gc, 0, none⟩) 16 cap
      go_wp2
      refine ⟨hS1, ?_⟩
      refine wpAnyH_take (i := 7) rfl (by kernel_rfl) (by kernel_rfl) (by kernel_rfl) (fun _ _ _ h => h) (yields_build rfl 31 #[(0, .tmp 13), (1, .tmp 15), (2, .tmp 18)] rfl _ hb3) hS1 ?_
      refine wpAnyH_one 9 _ (by kernel_rfl) rfl ?_
      have hsi := sgc_info seed (unhide Hs) (x : Int) (.slice (some ⟨gc, 0, none⟩) 16 cap)
      have hso := sgc_one seed (x : Int) (some ⟨gc, 0, none⟩) 16 cap
      have hsz := sg0_size seed (unhide Hs) (x : Int) (.slice (some ⟨gc, 0, none⟩) 16 cap)
      obtain ⟨CC, hCC⟩ : ∃ CC, sgc seed (x : Int) (.slice (some ⟨gc, 0, none⟩) 16 cap) = CC := ⟨_, rfl⟩
      rw [hCC] at hsi hso hsz
      rw [hCC]
      have HCC := hide hCC
      clear hCC hb3
      go_wp2_with (refine wpList_store_row rfl 31 (.tmp 9) (.tmp 19) rfl X.heap.size CC rfl rfl 31 _ q1 hsi hsz hso ?_)
      have hS2 : Below X.heap.size X (w1.setRow X.heap.size CC) := below_setRow hS1 (Nat.le_refl _) _
      refine ⟨hS2, wpAnyH_done (by kernel_rfl) ?_ _⟩
      go_wp2
      go_meet
      case rel => exact ⟨X.heap.size, gc, cap, rfl, by rw [unhide HCC]; exact setRow_heap _ _ _ _ _ _ q1, hDg.other (setRow_size _ _ _) (fun _ b' off' e' => by cases e'; exact setRow_other _ _ _ _ (by omega)), hS2, Nat.le_refl _, by omega, by omega⟩
  case rest =>
    obtain ⟨G, gc, cap, rfl, qG, hDg, hbX, zG, zgc, hne⟩ := hcut
    have hxs := unhide Xs
    have c0 := Below.at hbX (by omega) (unhide X0)
    have c1 := Below.at hbX (by omega) (unhide X1)
    have c2 := Below.at hbX (by omega) (unhide X2)
    have c3 := Below.at hbX (by omega) (unhide x3)
    have bW : Below w.heap.size w wc := (unhide XB).trans (hbX.mono (unhide XB).size)
    have hGn : w.heap.size + 1 + 1 + 1 < G := by omega
    have n0 : wc.cell? ⟨w.heap.size, 32, none⟩ = some (.int .i64 (x : Int)) := by rw [cell_of_row _ _ _ _ _ _ c0]; exact cn
    have HG := hide hGn
    have Hgne := hide hne
    have HgcX : Hid (w.heap.size + 1 + 1 + 1 < gc) := hide (by omega)
    clear hxs hbX zG zgc hne hGn hcl hbs
    go_wp2_with fail
    refine (unhide hk _).mono ?_
    rintro e w4 ⟨rfl, rfl⟩
    go_wp2_with (first
      | (refine wpList_load_row rfl 31 (.tmp 3) rfl w.heap.size rfl 31 C (0, 0) _ c0 Tryd.underlying31 rfl hiC ?_)
      | (refine wpList_load_row rfl 23 (.tmp 5) rfl (w.heap.size + 1) rfl 23 _ (0, 0) _ c1 Tryd.underlying23 rfl hid ?_))
    refine (unhide hag _ ((unhide HD).below bW (Nat.le_refl _)) ((unhide HT).below bW (Nat.le_refl _))).mono ?_
    rintro e w5 ⟨⟨cs, rfl, hSig⟩, b5⟩
    have d2 := Below.at b5 (Array.getElem?_eq_some_iff.1 c2).1 c2
    have d3 := Below.at b5 (Array.getElem?_eq_some_iff.1 c3).1 c3
    have dG := Below.at b5 (Array.getElem?_eq_some_iff.1 qG).1 qG
    have hDg5 := hDg.below b5 (Nat.le_refl _)
    have bW5 : Below w.heap.size w w5 := bW.trans (b5.mono bW.size)
    have hsz := hSig.size
    have hsi := sig_info cs hsz.1
    have hso := hsz.2
    have hsq : sigZ.size = cs.size := by rw [hsz.1]; rfl
    have zG5 : G < w4.heap.size := (Array.getElem?_eq_some_iff.1 qG).1
    have zc : w4.heap.size ≤ w5.heap.size := b5.size
    have HSig := hide hSig
    have HS := Hs
    have ZG5 := hide zG5
    have Zc := hide zc
    have hset : Hid ((sgc seed (x : Int) (.slice (some ⟨gc, 0, none⟩) 16 cap)).setIfInBounds 32 (.int .i64 ((x : Int) + 1)) = sgc seed ((x : Int) + 1) (.slice (some ⟨gc, 0, none⟩) 16 cap)) := hide (sgc_set seed (unhide Hs) _ _ _)
    have hwx : IntKind.i64.wrap ((x : Int) + 1) = (x : Int) + 1 := wi64 _ (by omega) (by have := unhide Hx; omega)
    clear hsz hSig c0 c1 c2 c3 n0 qG hDg b5 bW zG5 zc
    go_upto_region 8 with (refine wpList_store_newV rfl 26 (.tmp 10) (.tmp 33) rfl w5 sigZ _ cs rfl rfl hsi hsq hso ?_; intro w6 q6 b6 z6; have eG := Below.at b6 (Array.getElem?_eq_some_iff.1 dG).1 dG; have nG : w6.cell? ⟨G, 32, none⟩ = some (.int .i64 (x : Int)) := (cell_of_row _ _ _ _ _ _ eG).trans (sgc_next seed (unhide Hs) _ _); have fG : w6.frozen? ⟨G, 32, none⟩ = false := frozen_of_row _ _ _ _ _ eG)
    have e2 := Below.at b6 (Array.getElem?_eq_some_iff.1 d2).1 d2
    have e3 := Below.at b6 (Array.getElem?_eq_some_iff.1 d3).1 d3
    have hDg6 := hDg5.below b6 (Nat.le_refl _)
    have bW6 : Below w.heap.size w w6 := bW5.trans (b6.mono bW5.size)
    have HSig6 := hide ((unhide HSig).below b6)
    have eS := heap_setCell_same _ _ 32 _ _ (.int .i64 ((x : Int) + 1)) eG
    rw [unhide hset] at eS
    have hGn := unhide HG
    have hG5 := unhide ZG5
    have hc5 := unhide Zc
    have hoth : ∀ k, k ≠ G → (w6.setCell ⟨G, 32, none⟩ (.int .i64 ((x : Int) + 1))).heap[k]? = w6.heap[k]? := fun k hk => heap_setCell_other _ _ _ _ (by show k ≠ G; exact hk)
    have f2 := (hoth (w.heap.size + 1 + 1) (by omega)).trans e2
    have f3 := (hoth (w.heap.size + 1 + 1 + 1) (by omega)).trans e3
    have f6 := (hoth w5.heap.size (by omega)).trans q6
    have bW7 : Below w.heap.size w (w6.setCell ⟨G, 32, none⟩ (.int .i64 ((x : Int) + 1))) := bW6.setCell (p := ⟨G, 32, none⟩) (by show w.heap.size ≤ G; omega) _
    have hD7 : DL (w6.setCell ⟨G, 32, none⟩ (.int .i64 ((x : Int) + 1))) (some ⟨gc, 0, none⟩) ds := hDg6.other (by simp) (fun _ b' off' e' => by cases e'; exact hoth gc (by have := unhide Hgne; omega))
    have HS7 : Hid (SigAt (w6.setCell ⟨G, 32, none⟩ (.int .i64 ((x : Int) + 1))) w4.heap.size seed d ds x cs) := hide (by
      obtain ⟨g, gp, h1, h2, h3, h4, h5, h6⟩ := (unhide HSig6).ex
      exact ⟨g, gp, h1, h2, h3, (hoth g (by omega)).trans h4, (hoth (g + 1) (by omega)).trans h5, (hoth gp (by omega)).trans h6⟩)
    obtain ⟨V, hV⟩ : ∃ V, w6.setCell ⟨G, 32, none⟩ (.int .i64 ((x : Int) + 1)) = V := ⟨_, rfl⟩
    rw [hV] at eS f2 f3 f6 bW7 hD7 HS7
    rw [hV]
    have hz2 := sg0_size seed (unhide Hs) ((x : Int) + 1) (.slice (some ⟨gc, 0, none⟩) 16 cap)
    have hi2 := sgc_info seed (unhide Hs) ((x : Int) + 1) (.slice (some ⟨gc, 0, none⟩) 16 cap)
    have ho2 := sgc_one seed ((x : Int) + 1) (some ⟨gc, 0, none⟩) 16 cap
    obtain ⟨SG, hSG⟩ : ∃ SG, sgc seed ((x : Int) + 1) (.slice (some ⟨gc, 0, none⟩) 16 cap) = SG := ⟨_, rfl⟩
    rw [hSG] at hz2 hi2 ho2 eS
    have HSG := hide hSG
    obtain ⟨J, hJ⟩ : ∃ J, w5.heap.size = J := ⟨_, rfl⟩
    have hJ4 : w4.heap.size ≤ J := by rw [← hJ]; exact hc5
    rw [hJ] at f6
    rw [hJ]
    have hgcz : gc < V.heap.size := by
      obtain ⟨b', off', e', h', _⟩ := hD7.2 (by intro h0; have := unhide Hlen; rw [h0] at this; simp at this)
      cases e'; exact h'
    have HgcN := unhide HgcX
    have L1 := hide hGn
    have L2 := hide hG5
    have L3 := hide hJ4
    have L4 := hide HgcN
    clear hSG hV hoth e2 e3 eG nG fG hDg6 bW6 HSig6 hset b6 z6 q6 d2 d3 dG hDg5 bW5 hGn hG5 hc5 hJ hJ4 HgcN hgcz
    have Z0 : { V with drawn := V.drawn + 1 }.heap = V.heap := rfl
    refine wp_region_held (S := fun W => W.heap[G]? = some (.cells SG 31 (0, 0)) ∧ W.heap[J]? = some (.cells cs 26 (0, 0))) mixed ?_
    have hS0 : { V with drawn := V.drawn + 1 }.heap[G]? = some (.cells SG 31 (0, 0)) ∧ { V with drawn := V.drawn + 1 }.heap[J]? = some (.cells cs 26 (0, 0)) := ⟨eS, f6⟩
    have bW8 : Below w.heap.size w { V with drawn := V.drawn + 1 } := bW7.trans ⟨rfl, rfl, rfl, Nat.le_refl _, fun _ _ => rfl⟩
    have g2 : { V with drawn := V.drawn + 1 }.heap[w.heap.size + 1 + 1]? = some (.cells sg0 31 (0, 0)) := f2
    have g3 : { V with drawn := V.drawn + 1 }.heap[w.heap.size + 1 + 1 + 1]? = some (.cells sigZ 26 (0, 0)) := f3
    have hD8 : DL { V with drawn := V.drawn + 1 } (some ⟨gc, 0, none⟩) ds := hD7.below (B := V.heap.size) ⟨rfl, rfl, rfl, Nat.le_refl _, fun _ _ => rfl⟩ (Nat.le_refl _)
    have HS8 : Hid (SigAt { V with drawn := V.drawn + 1 } w4.heap.size seed d ds x cs) := hide ((unhide HS7).below ⟨rfl, rfl, rfl, Nat.le_refl _, fun _ _ => rfl⟩)
    obtain ⟨Y, hY⟩ : ∃ Y, { V with drawn := V.drawn + 1 } = Y := ⟨_, rfl⟩
    rw [hY] at hS0 bW8 g2 g3 hD8 HS8
    rw [hY]
    clear hY Z0 f2 f3 f6 eS bW7 hD7 HS7
    refine wpAnyH_take (i := 0) rfl (by kernel_rfl) (by kernel_rfl) (by kernel_rfl) (fun _ _ _ h => h) (yields_row rfl 31 (.tmp 9) rfl G rfl 31 SG (0, 0) _ (fun W hW => hW.1) Tryd.underlying31 rfl hi2) hS0 ?_
    refine wpAnyH_take (i := 1) rfl (by kernel_rfl) (by kernel_rfl) (by kernel_rfl) (fun _ _ _ h => h) (yields_row rfl 26 (.tmp 10) rfl J rfl 26 cs (0, 0) _ (fun W hW => hW.2) Tryd.underlying26 rfl hsi) hS0 ?_
    refine wpAnyH_one 2 _ (by kernel_rfl) rfl ?_
    go_wp2_with (refine wpList_store_row rfl 31 (.tmp 6) (.tmp 44) rfl (w.heap.size + 1 + 1) SG rfl rfl 31 _ g2 hi2 hz2 ho2 ?_)
    have l1 := unhide L1
    have l2 := unhide L2
    have l3 := unhide L3
    have l4 := unhide L4
    refine ⟨⟨(setRow_other _ _ _ _ (by omega)).trans hS0.1, (setRow_other _ _ _ _ (by omega)).trans hS0.2⟩, ?_⟩
    refine wpAnyH_one 3 _ (by kernel_rfl) rfl ?_
    have k3 := (setRow_other Y (w.heap.size + 1 + 1) (w.heap.size + 1 + 1 + 1) SG (by omega)).trans g3
    go_wp2_with (refine wpList_store_row rfl 26 (.tmp 7) (.tmp 45) rfl (w.heap.size + 1 + 1 + 1) cs rfl rfl 26 _ k3 hsi hsq hso ?_)
    have oth : ∀ k, k ≠ w.heap.size + 1 + 1 → k ≠ w.heap.size + 1 + 1 + 1 → ((Y.setRow (w.heap.size + 1 + 1) SG).setRow (w.heap.size + 1 + 1 + 1) cs).heap[k]? = Y.heap[k]? := fun k h1 h2 => (setRow_other _ _ _ _ h2).trans (setRow_other _ _ _ _ h1)
    refine ⟨⟨(oth G (by omega) (by omega)).trans hS0.1, (oth J (by omega) (by omega)).trans hS0.2⟩, ?_⟩
    refine wpAnyH_one 4 _ (by kernel_rfl) rfl ?_
    go_wp2
    refine ⟨⟨(oth G (by omega) (by omega)).trans hS0.1, (oth J (by omega) (by omega)).trans hS0.2⟩, wpAnyH_done (by kernel_rfl) ?_ _⟩
    go_wp2
    refine bodyPost_ret (results_row_row_tmp rfl _ _ (w.heap.size + 1 + 1) (w.heap.size + 1 + 1 + 1) _ _ SG cs _ _ _ _ rfl rfl ((setRow_other _ _ _ _ (by omega)).trans (setRow_heap _ _ _ _ _ _ g2)) (setRow_heap _ _ _ _ _ _ k3) Tryd.underlying31 rfl hi2 Tryd.underlying26 rfl hsi) rfl ⟨⟨gc, cap, cs, by rw [unhide HSG]; rfl, by omega, ?_, ?_⟩, below_setRow (below_setRow bW8 (by omega) _) (by omega) _⟩
    · exact hD8.other (by rw [setRow_size, setRow_size]) (fun _ b' off' e' => by cases e'; exact oth gc (by omega) (by omega))
    · obtain ⟨g, gp, h1, h2, h3, h4, h5, h6⟩ := (unhide HS8).ex
      exact ⟨g, gp, by omega, by omega, h3, (oth g (by omega) (by omega)).trans h4, (oth (g + 1) (by omega) (by omega)).trans h5, (oth gp (by omega) (by omega)).trans h6⟩
end Go.Proofs.YtonmccmeljeopaaDoor

namespace Go.Proofs.YtonmccmeljeopaaDoor
open Go.RowKit
set_option linter.unusedSimpArgs false
set_option linter.unusedVariables false

theorem dig_self (d : List UInt8) (hd : d.length = 32) (w : World) : (binOp .eql 23 (.agg (bc d)) (.agg (bc d))).run Tryd.prog w = .ok (.bool true) w := by
  obtain ⟨la, hla⟩ := keyLits_ints (P := Tryd.prog) 23 5 32 .u8 Tryd.underlying23 Tryd.underlying5 (by kernel_rfl) (by kernel_rfl) (d.map fun b => (b.toNat : Int)) (by simpa using hd) (fun z hz => by
    obtain ⟨b, _, rfl⟩ := List.mem_map.1 hz
    have := b.toNat_lt
    simp [Lit.wf, IntKind.min, IntKind.max, IntKind.signed, IntKind.bits]; omega)
  refine eql_refl 23 2 2 (by omega) (by kernel_rfl) _ ?_ la ?_ w
  · simp only [Value.formed, Tryd.underlying23, bc_size, hd]; kernel_rfl
  · rw [← hla]; simp [bc, Lib.byteCells]; rfl
end Go.Proofs.YtonmccmeljeopaaDoor
