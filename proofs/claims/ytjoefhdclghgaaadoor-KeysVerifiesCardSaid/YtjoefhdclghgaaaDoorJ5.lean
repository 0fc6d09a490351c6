/-
  WHAT A SPENT SIGNER's Sign RETURNS: itself, no signature, ErrSpent.
-/
/-
  WHAT THE STATEMENTS' SameList, SameSig AND same RETURN OF LIKE ONES, over lists of digests anywhere: true.
-/
/-
  A WHOLE ROW LOADED WHERE A GUARD LETS IT. Over whatever program.
-/
/-
  KeysVerifies: each of a signer's sixteen signatures is verified under its root; behind sixteen none is made.
-/
/-
  WHAT THE ROWS OF LAYER 1 LIST GIVES THE WALKS: the two tables of package sha, read as the program's text lays them.
-/
/-
  ARRAYS OF NUMBERS AS ARGUMENTS: what a row hands the walks. Over whatever program.
-/
/-
  A DIGEST AS THE ARGUMENT OF A ROW.
-/
/-
  LISTS OF DIGESTS AS ARGUMENTS: what a row hands the walks.
-/
import Derived.Test.YtjoefhdclghgaaaDoorJ3
import Derived.Test.YtjoefhdclghgaaaDoorJ2
import Derived.Test.YtjoefhdclghgaaaDoorJ0
import Derived.Test.YtjoefhdclghgaaaDoorJ4
import Derived.Deep.MidRow
import Derived.Test.YtjoefhdclghgaaaDoorCards
import Derived.Test.YtjoefhdclghgaaaDoorTie
import Derived.ProofKit
import Derived.OpenShut
import Derived.Deep.DeepHandedRow
import Derived.Lib.LaidTab
import Derived.WideKeyArr2
import Derived.ChangeMaps5
import Derived.Deep.Slices
import Derived.Lib.SmallJoins
namespace Go.Proofs.YtjoefhdclghgaaaDoor
open Go Go.RowKit
set_option linter.unusedSimpArgs false
set_option linter.unusedVariables false

set_option maxHeartbeats 4000000 in
set_option maxRecDepth 100000 in
theorem ksign_spent (seed : List UInt8) (h : seed.length = 32) (x : Nat) (hx : x = 16) (ds : List (List UInt8)) (hds : ds.length = 16) (b off c : Nat) (d : List UInt8) (hd : d.length = 32) (w : World) (hD : DL w (some ⟨b, off, none⟩) ds) (tabs : Tabs w) :
    Calls Tryd.prog 8 #[.agg (sgc seed (x : Int) (.slice (some ⟨b, off, none⟩) 16 c)), .pointer none, .agg (bc d)] w fun e w' => (∃ gc cap : Nat, e = .returned (.tuple #[.agg (sgc seed (x : Int) (.slice (some ⟨gc, 0, none⟩) 16 cap)), .agg sigZ, .int .i64 22]) ∧ w.heap.size ≤ gc ∧ DL w' (some ⟨gc, 0, none⟩) ds) ∧ Below w.heap.size w w' := by
  obtain ⟨C, hC⟩ : ∃ C, sgc seed (x : Int) (.slice (some ⟨b, off, none⟩) 16 c) = C := ⟨_, rfl⟩
  have hiC := sgc_info seed h (x : Int) (.slice (some ⟨b, off, none⟩) 16 c)
  have hid := digInfo d hd
  rw [hC] at hiC
  have cn : C[32]? = some (.int .i64 (x : Int)) := by rw [← hC]; exact sgc_next seed h _ _
  have cl : C[33]? = some (.slice (some ⟨b, off, none⟩) 16 c) := by rw [← hC]; exact sgc_leaves seed h _ _
  have csd : Hid (∀ (W : World) (g : Nat) (t : TypeId), W.heap[g]? = some (.cells C t (0, 0)) → W.rangeAt g 0 (Lib.byteCells seed)) := hide (by rw [← hC]; exact fun W g t hW => sgc_seed seed h _ _ W g t hW)
  have hcl := hide fun W hW => clone_digs ds (by omega) b off c W hW
  rw [hds] at hcl
  have hbs := hide fun p l cc => built_sg3 seed h (x : Int) p l cc
  have hk := hide fun W => isKey_calls (x : Int) W
  have hkk : (if (0 : Int) ≤ (x : Int) then decide ((x : Int) < 16) else false) = false := by rw [if_pos (by omega)]; simp; omega
  rw [hkk] at hk
  rw [hC]
  have A3 := hide (al3 w (.cells C 27) (.cells (bc d) 23) (.cells sg0 27))
  have HD := hide hD
  have HT := hide tabs
  have Hs := hide h
  have Hx := hide hx
  have Hlen := hide hds
  clear hD tabs hkk hC h hd hds hx
  obtain ⟨X, hX⟩ : ∃ X, (((w.alloc (.cells C 27)).alloc (.cells (bc d) 23)).alloc (.cells sg0 27)).alloc (.cells sigZ 31) = X := ⟨_, rfl⟩
  have HX := hide hX
  have x3 : Hid (X.heap[w.heap.size + 1 + 1 + 1]? = some (.cells sigZ 31 (0, 0))) := by
    have := al1 (((w.alloc (.cells C 27)).alloc (.cells (bc d) 23)).alloc (.cells sg0 27)) (.cells sigZ 31)
    rw [hX] at this
    exact hide (by simpa using this)
  have xs : X.heap.size = w.heap.size + 1 + 1 + 1 + 1 := by rw [← hX]; simp
  have x0 : X.heap[w.heap.size]? = some (.cells C 27 (0, 0)) := by rw [← hX, Below.heap_alloc _ _ _ (by simp only [World.size_alloc]; omega)]; exact (unhide A3).1
  have x1 : X.heap[w.heap.size + 1]? = some (.cells (bc d) 23 (0, 0)) := by rw [← hX, Below.heap_alloc _ _ _ (by simp only [World.size_alloc]; omega)]; exact (unhide A3).2.1
  have x2 : X.heap[w.heap.size + 1 + 1]? = some (.cells sg0 27 (0, 0)) := by rw [← hX, Below.heap_alloc _ _ _ (by simp only [World.size_alloc]; omega)]; exact (unhide A3).2.2
  have xb : Below w.heap.size w X := by rw [← hX]; exact (bel3 w _ _ _).alloc (by simp; omega) _
  have Xs := hide xs
  have X0 := hide x0
  have X1 := hide x1
  have X2 := hide x2
  have XB := hide xb
  clear xs x0 x1 x2 xb A3 hX
  go_enter Tryd.func8, Tryd.ntmps8
  go_upto_region 1 with fail
  change Code.wp _ _ _ _ ((((w.alloc (.cells C 27)).alloc (.cells (bc d) 23)).alloc (.cells sg0 27)).alloc (.cells sigZ 31))
  rw [unhide HX]
  go_cut [9] (fun p wc => ∃ g gc cap : Nat, p = .pointer (some ⟨g, 0, none⟩) ∧ wc.heap[g]? = some (.cells (sgc seed (x : Int) (.slice (some ⟨gc, 0, none⟩) 16 cap)) 27 (0, 0)) ∧ DL wc (some ⟨gc, 0, none⟩) ds ∧ Below X.heap.size X wc ∧ X.heap.size ≤ g ∧ X.heap.size ≤ gc ∧ g ≠ gc)
  case first =>
    have hS0 : Below X.heap.size X { X with drawn := X.drawn + 1 } := ⟨rfl, rfl, rfl, Nat.le_refl _, fun _ _ => rfl⟩
    have hxs := unhide Xs
    have r0 : Hid (∀ W : World, Below X.heap.size X W → W.heap[w.heap.size]? = some (.cells C 27 (0, 0))) := hide fun W hW => Below.at hW (by omega) (unhide X0)
    have r1 : Hid (∀ W : World, Below X.heap.size X W → W.rangeAt w.heap.size 0 (Lib.byteCells seed)) := hide fun W hW => unhide csd W _ _ (unhide r0 W hW)
    have r2 : Hid (∀ W : World, Below X.heap.size X W → W.cell? ⟨w.heap.size, 32, none⟩ = some (.int .i64 (x : Int))) := hide fun W hW => by rw [cell_of_row _ _ _ _ _ _ (unhide r0 W hW)]; exact cn
    have r3 : Hid (∀ W : World, Below X.heap.size X W → W.cell? ⟨w.heap.size, 33, none⟩ = some (.slice (some ⟨b, off, none⟩) 16 c)) := hide fun W hW => by rw [cell_of_row _ _ _ _ _ _ (unhide r0 W hW)]; exact cl
    clear hxs
    refine wp_region_held (S := fun W => Below X.heap.size X W) mixed ?_
    refine wpAnyH_take (i := 0) rfl (by kernel_rfl) (by kernel_rfl) (by kernel_rfl) (fun _ _ _ h => h) (.inl ⟨rfl, fun _ _ => rfl⟩) hS0 ?_
    refine wpAnyH_take (i := 1) rfl (by kernel_rfl) (by kernel_rfl) (by kernel_rfl) (fun _ _ _ h => h) (yields_mid rfl 23 (.tmp 12) rfl w.heap.size 0 rfl (Lib.byteCells seed) _ (unhide r1) Tryd.underlying23 rfl (by rw [Lib.byteCells_length, unhide Hs]; kernel_rfl)) hS0 ?_
    refine wpAnyH_take (i := 2) rfl (by kernel_rfl) (by kernel_rfl) (by kernel_rfl) (fun _ _ _ h => h) (.inl ⟨rfl, fun _ _ => rfl⟩) hS0 ?_
    refine wpAnyH_take (i := 3) (v := .int .i64 (x : Int)) rfl (by kernel_rfl) (by kernel_rfl) (by kernel_rfl) (fun _ _ _ h => h) (.inl ⟨rfl, fun W hW => by have c2 := unhide r2 W hW; go_simp⟩) hS0 ?_
    refine wpAnyH_take (i := 4) rfl (by kernel_rfl) (by kernel_rfl) (by kernel_rfl) (fun _ _ _ h => h) (.inl ⟨rfl, fun _ _ => rfl⟩) hS0 ?_
    refine wpAnyH_take (i := 5) (v := .slice (some ⟨b, off, none⟩) 16 c) rfl (by kernel_rfl) (by kernel_rfl) (by kernel_rfl) (fun _ _ _ h => h) (.inl ⟨rfl, fun W hW => by have c3 := unhide r3 W hW; go_simp⟩) hS0 ?_
    refine wpAnyH_two 6 8 _ _ (by kernel_rfl) rfl rfl ?_ ?_
    · have hDX := ((unhide HD).below (unhide XB) (Nat.le_refl _)).below hS0 (Nat.le_refl _)
      have HS0 := hide hS0
      clear hS0 r0 r1 r2 r3
      go_wp2_with fail
      refine (unhide hcl _ hDX).mono ?_
      rintro e w1 ⟨⟨gc, cap, rfl, hg, hDg⟩, b1⟩
      have hS1 : Below X.heap.size X w1 := (unhide HS0).trans (b1.mono (Nat.le_refl _))
      go_wp2
      refine ⟨hS1, ?_⟩
      have hb3 := unhide hbs (some ⟨gc, 0, none⟩) 16 cap
      refine wpAnyH_take (i := 7) rfl (by kernel_rfl) (by kernel_rfl) (by kernel_rfl) (fun _ _ _ h => h) (yields_build rfl 27 #[(0, .tmp 13), (1, .tmp 15), (2, .tmp 18)] rfl _ hb3) hS1 ?_
      refine wpAnyH_one 8 _ (by kernel_rfl) rfl ?_
      go_wp2
      refine ⟨hS1.alloc hS1.size _, ?_⟩
      refine wpAnyH_one 9 _ (by kernel_rfl) rfl ?_
      have hsi := sgc_info seed (unhide Hs) (x : Int) (.slice (some ⟨gc, 0, none⟩) 16 cap)
      have hso := sgc_one seed (x : Int) (some ⟨gc, 0, none⟩) 16 cap
      have hsz := sg0_size seed (unhide Hs) (x : Int) (.slice (some ⟨gc, 0, none⟩) 16 cap)
      have hgz : gc < w1.heap.size := by
        obtain ⟨b', off', e', h', _⟩ := hDg.2 (by intro h0; rw [h0] at hDg; have := unhide Hlen; rw [h0] at this; simp at this)
        cases e'; exact h'
      obtain ⟨CC, hCC⟩ : ∃ CC, sgc seed (x : Int) (.slice (some ⟨gc, 0, none⟩) 16 cap) = CC := ⟨_, rfl⟩
      rw [hCC] at hsi hso hsz
      rw [hCC]
      have HCC := hide hCC
      clear hCC hb3
      go_wp2_with (refine wpList_store_newV rfl 27 (.tmp 9) (.tmp 19) rfl w1 sg0 _ CC rfl rfl hsi hsz hso ?_; intro w2 q2 b2 z2)
      have hS2 := hS1.trans (b2.mono hS1.size)
      refine ⟨hS2, wpAnyH_done (by kernel_rfl) ?_ _⟩
      go_wp2
      go_meet
      case rel => exact ⟨w1.heap.size, gc, cap, rfl, by rw [unhide HCC]; exact q2, hDg.below b2 (Nat.le_refl _), hS2, hS1.size, hg, by omega⟩
    · have hDX := ((unhide HD).below (unhide XB) (Nat.le_refl _)).below hS0 (Nat.le_refl _)
      have HS0 := hide hS0
      have HDX := hide hDX
      clear hS0 hDX r0 r1 r2 r3
      go_wp2
      have hSA : Below X.heap.size X ({ X with drawn := X.drawn + 1 }.alloc (.cells sg0 27)) := (unhide HS0).alloc (Nat.le_refl _) _
      have qA := al1 { X with drawn := X.drawn + 1 } (.cells sg0 27)
      have hDA := (unhide HDX).below ((Below.refl _ { X with drawn := X.drawn + 1 }).alloc (Nat.le_refl _) (.cells sg0 27)) (Nat.le_refl _)
      refine ⟨hSA, ?_⟩
      refine wpAnyH_one 6 _ (by kernel_rfl) rfl ?_
      change wpList _ _ _ _ _ ({ X with drawn := X.drawn + 1 }.alloc (.cells sg0 27))
      obtain ⟨Y, hY⟩ : ∃ Y, { X with drawn := X.drawn + 1 }.alloc (.cells sg0 27) = Y := ⟨_, rfl⟩
      rw [hY] at hSA qA hDA
      rw [hY]
      have zA : X.heap.size < Y.heap.size := (Array.getElem?_eq_some_iff.1 qA).1
      clear hY
      go_wp2_with fail
      refine (unhide hcl _ hDA).mono ?_
      rintro e w1 ⟨⟨gc, cap, rfl, hg, hDg⟩, b1⟩
      have hS1 : Below X.heap.size X w1 := hSA.trans (b1.mono hSA.size)
      have q1 : w1.heap[X.heap.size]? = some (.cells sg0 27 (0, 0)) := Below.at b1 zA qA
      have hb3 := unhide hbs (some ⟨gc, 0, none⟩) 16 cap
      go_wp2
      refine ⟨hS1, ?_⟩
      refine wpAnyH_take (i := 7) rfl (by kernel_rfl) (by kernel_rfl) (by kernel_rfl) (fun _ _ _ h => h) (yields_build rfl 27 #[(0, .tmp 13), (1, .tmp 15), (2, .tmp 18)] rfl _ hb3) hS1 ?_
      refine wpAnyH_one 9 _ (by kernel_rfl) rfl ?_
      have hsi := sgc_info seed (unhide Hs) (x : Int) (.slice (some ⟨gc, 0, none⟩) 16 cap)
      have hso := sgc_one seed (x : Int) (some ⟨gc, 0, none⟩) 16 cap
      have hsz := sg0_size seed (unhide Hs) (x : Int) (.slice (some ⟨gc, 0, none⟩) 16 cap)
      obtain ⟨CC, hCC⟩ : ∃ CC, sgc seed (x : Int) (.slice (some ⟨gc, 0, none⟩) 16 cap) = CC := ⟨_, rfl⟩
      rw [hCC] at hsi hso hsz
      rw [hCC]
      have HCC := hide hCC
      clear hCC hb3
      go_wp2_with (refine wpList_store_row rfl 27 (.tmp 9) (.tmp 19) rfl X.heap.size CC rfl rfl 27 _ q1 hsi hsz hso ?_)
      have hS2 : Below X.heap.size X (w1.setRow X.heap.size CC) := below_setRow hS1 (Nat.le_refl _) _
      refine ⟨hS2, wpAnyH_done (by kernel_rfl) ?_ _⟩
      go_wp2
      go_meet
      case rel => exact ⟨X.heap.size, gc, cap, rfl, by rw [unhide HCC]; exact setRow_heap _ _ _ _ _ _ q1, hDg.other (setRow_size _ _ _) (fun _ b' off' e' => by cases e'; exact setRow_other _ _ _ _ (by omega)), hS2, Nat.le_refl _, by omega, by omega⟩
  case rest =>
    obtain ⟨G, gc, cap, rfl, qG, hDg, hbX, zG, zgc, hne⟩ := hcut
    have hxs := unhide Xs
    have c0 := Below.at hbX (by omega) (unhide X0)
    have c1 := Below.at hbX (by omega) (unhide X1)
    have c2 := Below.at hbX (by omega) (unhide X2)
    have c3 := Below.at hbX (by omega) (unhide x3)
    have bW : Below w.heap.size w wc := (unhide XB).trans (hbX.mono (unhide XB).size)
    have hGn : w.heap.size + 1 + 1 + 1 < G := by omega
    have n0 : wc.cell? ⟨w.heap.size, 32, none⟩ = some (.int .i64 (x : Int)) := by rw [cell_of_row _ _ _ _ _ _ c0]; exact cn
    have HG := hide hGn
    have Hgne := hide hne
    have HgcX : Hid (w.heap.size + 1 + 1 + 1 < gc) := hide (by omega)
    clear hxs hbX zG zgc hne hGn hcl hbs
    go_wp2_with fail
    refine (unhide hk _).mono ?_
    rintro e w4 ⟨rfl, rfl⟩
    have hsi := sgc_info seed (unhide Hs) (x : Int) (.slice (some ⟨gc, 0, none⟩) 16 cap)
    have hso := sgc_one seed (x : Int) (some ⟨gc, 0, none⟩) 16 cap
    have hsz := sg0_size seed (unhide Hs) (x : Int) (.slice (some ⟨gc, 0, none⟩) 16 cap)
    obtain ⟨CC, hCC⟩ : ∃ CC, sgc seed (x : Int) (.slice (some ⟨gc, 0, none⟩) 16 cap) = CC := ⟨_, rfl⟩
    rw [hCC] at hsi hso hsz qG
    have HCC := hide hCC
    have k3 := (setRow_other w4 (w.heap.size + 1 + 1) (w.heap.size + 1 + 1 + 1) CC (by omega)).trans c3
    have hig : (Tryd.prog.info? 31).map (·.size) = some sigZ.size := by kernel_rfl
    clear hCC n0
    go_wp2_with (first
      | (refine wpList_load_row rfl 27 (.tmp 9) rfl G rfl 27 CC (0, 0) _ qG Tryd.underlying27 rfl hsi ?_)
      | (refine wpList_build_to rfl 31 #[] rfl sigZ (by kernel_rfl) ?_)
      | (refine wpList_store_row rfl 27 (.tmp 6) (.tmp 24) rfl (w.heap.size + 1 + 1) CC rfl rfl 27 _ c2 hsi hsz hso ?_)
      | (refine wpList_store_row rfl 31 (.tmp 7) (.tmp 25) rfl (w.heap.size + 1 + 1 + 1) sigZ rfl rfl 31 _ k3 hig rfl (by kernel_rfl) ?_))
    have l1 := unhide HG
    have l2 := unhide HgcX
    refine bodyPost_ret (results_row_row_tmp rfl _ _ (w.heap.size + 1 + 1) (w.heap.size + 1 + 1 + 1) _ _ CC sigZ _ _ _ _ rfl rfl ((setRow_other _ _ _ _ (by omega)).trans (setRow_heap _ _ _ _ _ _ c2)) (setRow_heap _ _ _ _ _ _ k3) Tryd.underlying27 rfl hsi Tryd.underlying31 rfl hig) rfl ⟨⟨gc, cap, by rw [unhide HCC]; rfl, by omega, ?_⟩, below_setRow (below_setRow bW (by omega) _) (by omega) _⟩
    exact hDg.other (by rw [setRow_size, setRow_size]) (fun _ b' off' e' => by cases e'; exact (setRow_other _ _ _ _ (by omega)).trans (setRow_other _ _ _ _ (by omega)))
end Go.Proofs.YtjoefhdclghgaaaDoor

namespace Go.Proofs.YtjoefhdclghgaaaDoor
open Go Go.RowKit
set_option linter.unusedSimpArgs false
set_option linter.unusedVariables false

theorem wpList_load_mid_gk {P : Program} {ops : Array Oper} {rest : List Oper} {o : Oper} {a : Act} {w : World} {Q : Exit → Act → World → Prop} (hw : Region.wanted o (yielded ops a.tmps) = true) (ty : TypeId) (x : Operand) (ho : o.op = .load ty x)
    (b off : Nat) (hx : a.eval x = .pointer (some ⟨b, off, none⟩)) (cs : List Value) (d : TypeDesc) (hc : w.rangeAt b off cs)
    (hu : P.underlying ty = some d) (hd : d.isRow = true) (hi : (P.info? ty).map (·.size) = some cs.length)
    (h : wpList P ops Q rest (a.put o.dst (.agg cs.toArray)) w) : wpList P ops Q (o :: rest) a w :=
  wpList_step fun K hK => by
    rw [if_pos hw]
    exact wp_load_mid ty x ho b off hx cs d hc hu hd hi (hK _ _ h)
theorem wpList_eql_gk {P : Program} {ops : Array Oper} {rest : List Oper} {o : Oper} {a : Act} {w : World} {Q : Exit → Act → World → Prop} (hw : Region.wanted o (yielded ops a.tmps) = true) (t t' : TypeId) (x y : Operand) (ho : o.op = .binOp .eql t x y t')
    (u v : Array Value) (hx : a.eval x = .agg u) (hy : a.eval y = .agg v) (hgt : P.eqGuardType P.depth t = false) (b : Bool) (he : ∀ w, (binOp .eql t (.agg u) (.agg v)).run P w = .ok (.bool b) w)
    (h : wpList P ops Q rest (a.put o.dst (.bool b)) w) : wpList P ops Q (o :: rest) a w :=
  wpList_step fun K hK => by
    rw [if_pos hw]
    have hg : (eqGuard .eql t x y (.agg u) (.agg v)).run P w = .ok () w := run_eqGuard_agg w .eql t x y u v hgt
    unfold Oper.wp execOp
    simp only [ho, hx, hy, Sem.run_bind, hg, Result.andThen_ok, he]
    exact hK _ _ h
theorem dig_neqK (d : List UInt8) (hd : d.length = 32) (w : World) : (binOp .neq 23 (.agg (bc d)) (.agg (bc d))).run Tryd.prog w = .ok (.bool false) w := by
  have h := dig_eq d d hd hd w
  rw [decide_eq_true rfl] at h
  simp only [binOp, Op.equal] at h ⊢
  revert h
  simp only [Sem.run_bind]
  cases hh : (Op.equalIn Op.maxDepth 23 (.agg (bc d)) (.agg (bc d))).run Tryd.prog w with
  | ok v w' => intro h; simp [Result.andThen_ok] at h ⊢; obtain ⟨h1, h2⟩ := h; exact ⟨by simp [h1], h2⟩
  | halt e w' => intro h; simp [Result.andThen] at h
def Chunks (w : World) (p : Option Addr) (n : Nat) (f : Nat → List UInt8) : Prop :=
  ∃ b off, p = some ⟨b, off, none⟩ ∧ b < w.heap.size ∧ ∀ i, i < n → w.rangeAt b (off + i * 32) (Lib.byteCells (f i))
theorem Chunks.below {w w' : World} {p : Option Addr} {n : Nat} {f : Nat → List UInt8} (h : Chunks w p n f) (hb : Below w.heap.size w w') : Chunks w' p n f := by
  obtain ⟨b, off, rfl, hlt, hc⟩ := h
  exact ⟨b, off, rfl, Nat.lt_of_lt_of_le hlt hb.size, fun i hi => rangeAt_below (hc i hi) hb hlt⟩
theorem DL.chunks {w : World} {p : Option Addr} {ds : List (List UInt8)} (h : DL w p ds) (hn : ds ≠ []) : Chunks w p ds.length (fun i => ds.getD i []) := by
  obtain ⟨b, off, rfl, hlt, hc⟩ := h.2 hn
  exact ⟨b, off, rfl, hlt, hc⟩
theorem flat_chunks {w : World} {g n : Nat} {t : TypeId} {l : List UInt8} (hl : l.length = 32 * n) (h : w.heap[g]? = some (.cells (bc l) t (0, 0))) : Chunks w (some ⟨g, 0, none⟩) n (fun i => (l.drop (32 * i)).take 32) := by
  refine ⟨g, 0, rfl, (Array.getElem?_eq_some_iff.1 h).1, fun i hi j v hv => ?_⟩
  have hb := bytes_of_row h
  rw [Lib.byteCells, List.getElem?_map] at hv
  rw [List.getElem?_take] at hv
  split at hv
  · rename_i hj
    rw [List.getElem?_drop] at hv
    cases hq : l[32 * i + j]? with
    | none => rw [hq] at hv; simp at hv
    | some x =>
      rw [hq] at hv
      rw [Nat.zero_add, cell_of_row _ _ _ _ _ _ h]
      rw [show i * 32 + j = 32 * i + j by omega]
      rw [← hv]
      simp [bc, Lib.byteCells, hq]
  · simp at hv
set_option maxHeartbeats 1000000 in
set_option maxRecDepth 100000 in
theorem sameL_calls (p1 p2 : Option Addr) (n c1 c2 : Nat) (hnb : n < 4294967296) (f : Nat → List UInt8) (hf : ∀ i, i < n → (f i).length = 32) (w : World) (D1 : Chunks w p1 n f) (D2 : Chunks w p2 n f) :
    Calls Tryd.prog 22 #[.slice p1 n c1, .slice p2 n c2] w fun e w' => e = .returned (.bool true) ∧ Below w.heap.size w w' := by
  have Hp1 := hide D1
  have Hp2 := hide D2
  have Hf := hide hf
  clear D1 D2 hf
  go_enter Tryd.func22, Tryd.ntmps22
  go_wp2
  go_loopw [13] (fun i wr => ∃ j : Nat, j ≤ n ∧ i = .int .i64 (j : Int) ∧ Below w.heap.size w wr) (fun i _ => n - (intOf i).toNat)
  case atStart => exact ⟨0, by omega, rfl, Below.refl _ _⟩
  case round =>
    obtain ⟨j, hj, rfl, hb⟩ := hrel
    by_cases hlt : j < n
    · have hd : decide (j < n) = true := by simpa using hlt
      have bk : (j : Int) < (n : Int) := by omega
      obtain ⟨b1, off1, rfl, hz1, hby1⟩ := unhide Hp1
      obtain ⟨b2, off2, rfl, hz2, hby2⟩ := unhide Hp2
      have hch := unhide Hf j hlt
      have hr1 := hby1 j hlt
      have hr2 := hby2 j hlt
      obtain ⟨ch, hcc⟩ : ∃ ch, f j = ch := ⟨_, rfl⟩
      rw [hcc] at hch hr1 hr2
      have hC : ∀ w', (∃ p : Regrown, w' = Sort.grow (redrawn wr p.d) p.os) → Below w.heap.size w w' := fun w' ⟨p, hp⟩ => by
        rw [hp]; exact hb.trans ((below_regrown wr p.d p.os).mono hb.size)
      have r1 : Hid (∀ w', (∃ p : Regrown, w' = Sort.grow (redrawn wr p.d) p.os) → w'.rangeAt b1 (off1 + j * 32) (Lib.byteCells ch)) := fun w' hw' => rangeAt_below hr1 (hC w' hw') hz1
      have r2 : Hid (∀ w', (∃ p : Regrown, w' = Sort.grow (redrawn wr p.d) p.os) → w'.rangeAt b2 (off2 + j * 32) (Lib.byteCells ch)) := fun w' hw' => rangeAt_below hr2 (hC w' hw') hz2
      have hil : (Tryd.prog.info? 23).map (·.size) = some (Lib.byteCells ch).length := by rw [Lib.byteCells_length, hch]; kernel_rfl
      have hne := hide fun W => dig_neqK ch hch W
      clear hC hby1 hby2 hz1 hz2 hr1 hr2 hcc hch
      go_wp2_with fail
      refine wp_region_below mixed (by kernel_rfl) ?_
      quiet_step (fail)
      quiet_step (fail)
      quiet_step (fail)
      refine wpQuiet_load_mid rfl 23 (.tmp 18) rfl b1 (off1 + j * 32) rfl (Lib.byteCells ch) _ (unhide r1) Tryd.underlying23 rfl hil ?_
      quiet_step (fail)
      quiet_step (fail)
      quiet_step (fail)
      refine wpQuiet_load_mid rfl 23 (.tmp 22) rfl b2 (off2 + j * 32) rfl (Lib.byteCells ch) _ (unhide r2) Tryd.underlying23 rfl hil ?_
      have hne' : ∀ w, (binOp .neq 23 (.agg (Lib.byteCells ch).toArray) (.agg (Lib.byteCells ch).toArray)).run Tryd.prog w = .ok (.bool false) w := fun W => by have := unhide hne W; simpa [bc] using this
      quiet_step (fail)
      refine wpQuiet_nil ?_
      intro w3 hb3
      clear hne hne' hil r1 r2
      go_wp2
      go_roundw
      case rel => exact ⟨j + 1, by omega, by go_num, hb.trans (hb3.mono hb.size)⟩
      case measure => simp [intOf]; omega
    · have hd : decide (j < n) = false := by simpa using hlt
      go_wp2
      go_ret
      exact ⟨rfl, hb⟩
set_option maxHeartbeats 1000000 in
set_option maxRecDepth 100000 in
theorem sameS_calls (i : Int) (p1 p2 p3 q1 q2 q3 : Option Addr) (n1 n2 n3 c1 c2 c3 e1 e2 e3 : Nat) (h1 : n1 < 4294967296) (h2 : n2 < 4294967296) (h3 : n3 < 4294967296) (f1 f2 f3 : Nat → List UInt8) (hf1 : ∀ i, i < n1 → (f1 i).length = 32) (hf2 : ∀ i, i < n2 → (f2 i).length = 32) (hf3 : ∀ i, i < n3 → (f3 i).length = 32) (w : World)
    (A1 : Chunks w p1 n1 f1) (A2 : Chunks w p2 n2 f2) (A3 : Chunks w p3 n3 f3) (B1 : Chunks w q1 n1 f1) (B2 : Chunks w q2 n2 f2) (B3 : Chunks w q3 n3 f3) :
    Calls Tryd.prog 12 #[.agg #[.int .i64 i, .slice p1 n1 c1, .slice p2 n2 c2, .slice p3 n3 c3], .agg #[.int .i64 i, .slice q1 n1 e1, .slice q2 n2 e2, .slice q3 n3 e3]] w fun e w' => e = .returned (.bool true) ∧ Below w.heap.size w w' := by
  have r0 := (al2 w (.cells #[.int .i64 i, .slice p1 n1 c1, .slice p2 n2 c2, .slice p3 n3 c3] 31) (.cells #[.int .i64 i, .slice q1 n1 e1, .slice q2 n2 e2, .slice q3 n3 e3] 31)).1
  have r1 := (al2 w (.cells #[.int .i64 i, .slice p1 n1 c1, .slice p2 n2 c2, .slice p3 n3 c3] 31) (.cells #[.int .i64 i, .slice q1 n1 e1, .slice q2 n2 e2, .slice q3 n3 e3] 31)).2
  have hb0 := bel2 w (.cells #[.int .i64 i, .slice p1 n1 c1, .slice p2 n2 c2, .slice p3 n3 c3] 31) (.cells #[.int .i64 i, .slice q1 n1 e1, .slice q2 n2 e2, .slice q3 n3 e3] 31)
  have z0 : ((w.alloc (.cells #[.int .i64 i, .slice p1 n1 c1, .slice p2 n2 c2, .slice p3 n3 c3] 31)).alloc (.cells #[.int .i64 i, .slice q1 n1 e1, .slice q2 n2 e2, .slice q3 n3 e3] 31)).heap.size = w.heap.size + 1 + 1 := by simp
  go_enter Tryd.func12, Tryd.ntmps12
  go_wp2_with fail
  refine (sameL_calls _ _ n1 _ _ h1 f1 hf1 ((w.alloc (.cells #[.int .i64 i, .slice p1 n1 c1, .slice p2 n2 c2, .slice p3 n3 c3] 31)).alloc (.cells #[.int .i64 i, .slice q1 n1 e1, .slice q2 n2 e2, .slice q3 n3 e3] 31)) (A1.below hb0) (B1.below hb0)).mono ?_
  generalize (w.alloc (.cells #[.int .i64 i, .slice p1 n1 c1, .slice p2 n2 c2, .slice p3 n3 c3] 31)).alloc (.cells #[.int .i64 i, .slice q1 n1 e1, .slice q2 n2 e2, .slice q3 n3 e3] 31) = X at *
  rintro e w1 ⟨rfl, hb1⟩
  have s0 := Below.at hb1 (by omega) r0
  have s1 := Below.at hb1 (by omega) r1
  have b1 := hb0.trans (hb1.mono hb0.size)
  have z1 := hb1.size
  have k02 : w1.cell? ⟨w.heap.size, 2, none⟩ = some (.slice p2 n2 c2) := cell_of_row _ _ _ _ _ _ s0
  have k12 : w1.cell? ⟨w.heap.size + 1, 2, none⟩ = some (.slice q2 n2 e2) := cell_of_row _ _ _ _ _ _ s1
  clear r0 r1 hb0 hb1
  go_wp2_with fail
  refine (sameL_calls _ _ n2 _ _ h2 f2 hf2 w1 (A2.below b1) (B2.below b1)).mono ?_
  rintro e w2 ⟨rfl, hb2⟩
  have t0 := Below.at hb2 (by omega) s0
  have t1 := Below.at hb2 (by omega) s1
  have b2 := b1.trans (hb2.mono b1.size)
  have k03 : w2.cell? ⟨w.heap.size, 3, none⟩ = some (.slice p3 n3 c3) := cell_of_row _ _ _ _ _ _ t0
  have k13 : w2.cell? ⟨w.heap.size + 1, 3, none⟩ = some (.slice q3 n3 e3) := cell_of_row _ _ _ _ _ _ t1
  clear s0 s1 hb2 k02 k12 t0 t1
  go_wp2_with fail
  refine (sameL_calls _ _ n3 _ _ h3 f3 hf3 w2 (A3.below b2) (B3.below b2)).mono ?_
  rintro e w3 ⟨rfl, hb3⟩
  clear k03 k13
  go_wp2
  go_ret
  exact ⟨rfl, b2.trans (hb3.mono b2.size)⟩
set_option maxHeartbeats 1000000 in
set_option maxRecDepth 100000 in
theorem same_calls (seed : List UInt8) (h : seed.length = 32) (n : Int) (ds : List (List UInt8)) (hds : ds.length = 16) (p1 p2 : Option Addr) (c1 c2 : Nat) (w : World) (D1 : DL w p1 ds) (D2 : DL w p2 ds) :
    Calls Tryd.prog 9 #[.agg (sgc seed n (.slice p1 16 c1)), .agg (sgc seed n (.slice p2 16 c2))] w fun e w' => e = .returned (.bool true) ∧ Below w.heap.size w w' := by
  have hne : ds ≠ [] := by intro h0; rw [h0] at hds; simp at hds
  have hl := hide fun W (A : DL W p1 ds) (B : DL W p2 ds) => sameL_calls p1 p2 ds.length c1 c2 (by omega) (fun i => ds.getD i []) (fun i hi => A.len i hi) W (A.chunks hne) (B.chunks hne)
  rw [hds] at hl
  have hn1 := sgc_next seed h n (.slice p1 16 c1)
  have hn2 := sgc_next seed h n (.slice p2 16 c2)
  have hv1 := sgc_leaves seed h n (.slice p1 16 c1)
  have hv2 := sgc_leaves seed h n (.slice p2 16 c2)
  have hs1 := sgc_seed seed h n (.slice p1 16 c1)
  have hs2 := sgc_seed seed h n (.slice p2 16 c2)
  have hid : (Tryd.prog.info? 23).map (·.size) = some (Lib.byteCells seed).length := by rw [Lib.byteCells_length, h]; kernel_rfl
  have heq := hide fun W => dig_self seed h W
  obtain ⟨C1, hC1⟩ : ∃ C, sgc seed n (.slice p1 16 c1) = C := ⟨_, rfl⟩
  obtain ⟨C2, hC2⟩ : ∃ C, sgc seed n (.slice p2 16 c2) = C := ⟨_, rfl⟩
  rw [hC1] at hn1 hv1 hs1
  rw [hC2] at hn2 hv2 hs2
  rw [hC1, hC2]
  obtain ⟨a0, a1⟩ := al2 w (.cells C1 27) (.cells C2 36)
  have hb := bel2 w (.cells C1 27) (.cells C2 36)
  have E1 := D1.below hb (Nat.le_refl _)
  have E2 := D2.below hb (Nat.le_refl _)
  obtain ⟨X, hX⟩ : ∃ X, (w.alloc (.cells C1 27)).alloc (.cells C2 36) = X := ⟨_, rfl⟩
  rw [hX] at a0 a1 hb E1 E2
  have HX := hide hX
  have r0 := hide (hs1 X _ _ a0)
  have r1 := hide (hs2 X _ _ a1)
  have k0 : X.cell? ⟨w.heap.size, 32, none⟩ = some (.int .i64 n) := (cell_of_row _ _ _ _ _ _ a0).trans hn1
  have k1 : X.cell? ⟨w.heap.size + 1, 32, none⟩ = some (.int .i64 n) := (cell_of_row _ _ _ _ _ _ a1).trans hn2
  have m0 : X.cell? ⟨w.heap.size, 33, none⟩ = some (.slice p1 16 c1) := (cell_of_row _ _ _ _ _ _ a0).trans hv1
  have m1 : X.cell? ⟨w.heap.size + 1, 33, none⟩ = some (.slice p2 16 c2) := (cell_of_row _ _ _ _ _ _ a1).trans hv2
  clear hX hs1 hs2 hn1 hn2 hv1 hv2 hC1 hC2 D1 D2 hds hne a0 a1 h
  go_enter Tryd.func9, Tryd.ntmps9
  go_upto_region 1 with fail
  change Code.wp _ _ _ _ ((w.alloc (.cells C1 27)).alloc (.cells C2 36))
  rw [unhide HX]
  go_wp2_with (first
    | (refine wpList_load_mid_gk rfl 23 (.tmp 5) rfl w.heap.size 0 rfl (Lib.byteCells seed) _ (unhide r0) Tryd.underlying23 rfl hid ?_)
    | (refine wpList_load_mid_gk rfl 23 (.tmp 7) rfl (w.heap.size + 1) 0 rfl (Lib.byteCells seed) _ (unhide r1) Tryd.underlying23 rfl hid ?_)
    | (refine wpList_eql_gk rfl 23 23 (.tmp 6) (.tmp 8) rfl _ _ rfl rfl (by kernel_rfl) true (unhide heq) ?_))
  refine (unhide hl _ E1 E2).mono ?_
  rintro e w3 ⟨rfl, hb3⟩
  clear k0 k1 m0 m1 r0 r1
  go_wp2
  go_ret
  exact ⟨rfl, hb.trans (hb3.mono hb.size)⟩
end Go.Proofs.YtjoefhdclghgaaaDoor

namespace Go.Proofs.YtjoefhdclghgaaaDoor
open Go Go.RowKit

theorem wpList_load_row_gd {P : Program} {ops : Array Oper} {rest : List Oper} {o : Oper} {a : Act} {w : World} {Q : Exit → Act → World → Prop} (hw : Region.wanted o (yielded ops a.tmps) = true) (ty : TypeId) (x : Operand) (ho : o.op = .load ty x)
    (g : Nat) (hx : a.eval x = .pointer (some ⟨g, 0, none⟩)) (t : TypeId) (cs : Array Value) (fr : Nat × Nat) (d : TypeDesc) (hg : w.heap[g]? = some (.cells cs t fr))
    (hu : P.underlying ty = some d) (hd : (match d with | .struct _ | .array _ _ => true | _ => false) = true) (hi : (P.info? ty).map (·.size) = some cs.size)
    (h : wpList P ops Q rest (a.put o.dst (.agg cs)) w) : wpList P ops Q (o :: rest) a w :=
  wpList_step fun K hK => by
    rw [if_pos hw]
    exact wp_load_row ty x ho g hx t cs fr d hg hu hd hi (hK _ _ h)
end Go.Proofs.YtjoefhdclghgaaaDoor

namespace Go.Proofs.YtjoefhdclghgaaaDoor
open Go Go.RowKit
set_option linter.unusedSimpArgs false
set_option linter.unusedVariables false

theorem wpQuiet_neqK {P : Program} {ops : Array Oper} {C : World → Prop} {Q : Act → Prop} {a : Act} {o : Oper} {rest : List Oper} (hw : Region.wanted o (yielded ops a.tmps) = true) (t t' : TypeId) (x y : Operand) (ho : o.op = .binOp .neq t x y t')
    (u v : Array Value) (hx : a.eval x = .agg u) (hy : a.eval y = .agg v) (hgt : P.eqGuardType P.depth t = false) (b : Bool) (he : ∀ w, (binOp .neq t (.agg u) (.agg v)).run P w = .ok (.bool b) w)
    (h : wpQuiet P ops C Q rest (a.put o.dst (.bool b))) : wpQuiet P ops C Q (o :: rest) a := by
  show if _ then _ else _
  rw [if_pos hw]
  refine ⟨.bool b, fun w hC => ?_, h⟩
  have hg : (eqGuard .neq t x y (.agg u) (.agg v)).run P w = .ok () w := run_eqGuard_agg w .neq t x y u v hgt
  unfold Oper.quietAt execOp
  simp only [ho, hx, hy, Sem.run_bind, hg, Result.andThen_ok, he]
  exact ⟨rfl, rfl⟩
theorem SigAt.same {w : World} {B1 B2 : Nat} {seed d : List UInt8} {ds : List (List UInt8)} (hds : ds.length = 16) {x : Nat} {cs1 cs2 : Array Value} (h1 : SigAt w B1 seed d ds x cs1) (h2 : SigAt w B2 seed d ds x cs2) (hp : (pathB ds x 4).length = 32 * 4) :
    Calls Tryd.prog 12 #[.agg cs1, .agg cs2] w fun e w' => e = .returned (.bool true) ∧ Below w.heap.size w w' := by
  obtain ⟨g, gp, _, _, rfl, a1, a2, a3⟩ := h1.ex
  obtain ⟨g', gp', _, _, rfl, b1, b2, b3⟩ := h2.ex
  have k1 : (pParts seed x d 32).length = 32 * 32 := by have := pParts_length seed x d 32; omega
  have k2 : (pOthers seed x d 32).length = 32 * 32 := by have := pOthers_length seed x d 32; omega
  exact sameS_calls (x : Int) _ _ _ _ _ _ 32 32 4 _ _ _ _ _ _ (by decide) (by decide) (by decide) _ _ _ (fun i hi => by rw [List.length_take, List.length_drop]; omega) (fun i hi => by rw [List.length_take, List.length_drop]; omega) (fun i hi => by rw [List.length_take, List.length_drop]; omega) w
    (flat_chunks k1 a1) (flat_chunks k2 a2) (flat_chunks hp a3) (flat_chunks k1 b1) (flat_chunks k2 b2) (flat_chunks hp b3)
theorem SigAt.head {w : World} {B : Nat} {seed d : List UInt8} {ds : List (List UInt8)} {x : Nat} {cs : Array Value} (h : SigAt w B seed d ds x cs) : cs[0]? = some (.int .i64 (x : Int)) := by
  obtain ⟨g, gp, _, _, e, _⟩ := h.ex
  rw [e]; rfl
set_option maxHeartbeats 8000000 in
set_option maxRecDepth 100000 in
theorem keysVerifies_walk (seed : List UInt8) (h : seed.length = 32) (D : List (List UInt8)) (hDl : D.length ≤ 9223372036854775807) (pd : Option Addr) (cap0 : Nat) (w : World) (hD : DL w pd D) (tabs : Tabs w) :
    Calls Tryd.prog 3 #[.agg (bc seed), .slice pd D.length cap0] w fun e w' => e = .returned (.bool true) ∧ Below w.heap.size w w' := by
  have A := hide fun W t => kawake_calls W t
  have b0 : Below w.heap.size w (w.alloc (.cells (bc seed) 23)) := Below.alloc (Below.refl _ _) (Nat.le_refl _) _
  have q0 := al1 w (.cells (bc seed) 23)
  by_cases hs : D.length ≤ 20
  case neg =>
    have hd : decide ((20 : Int) < (D.length : Int)) = true := by simp; omega
    obtain ⟨n, hn⟩ : ∃ n, D.length = n := ⟨_, rfl⟩
    rw [hn] at hd
    rw [hn]
    clear hn hs hD hDl
    generalize bc seed = BS at *
    go_enter Tryd.func3, Tryd.ntmps3
    go_wp2_with fail
    refine (unhide A _ (tabs.below b0 (Nat.le_refl _))).mono ?_
    rintro e w1 ⟨rfl, b1⟩
    have bW1 := b0.trans (b1.mono b0.size)
    go_wp2_with fail
    refine (unhide A _ (tabs.below bW1 (Nat.le_refl _))).mono ?_
    rintro e w2 ⟨rfl, b2⟩
    go_wp2_with fail
    go_ret
    exact ⟨rfl, bW1.trans (b2.mono bW1.size)⟩
  have hd : decide ((20 : Int) < (D.length : Int)) = false := by simp; omega
  have hi0 := digInfo seed h
  have cn := hide fun W t => new_calls seed h W t
  have hRT := kRoot_length (pLeaves seed) (pLeaves_len seed)
  have hir := digInfo _ hRT
  have hzr := zeroSize _ hRT
  have cr := hide fun n p c W hD t => kroot_calls seed h n (pLeaves seed) (pLeaves_len seed) p c W hD t
  have hsi := hide fun n v => sgc_info seed h n v
  have hso := hide fun n p l c => sgc_one seed n p l c
  have hsz := hide fun n v => sg0_size seed h n v
  have HT := hide tabs
  have HD := hide hD
  obtain ⟨RT, hRTe⟩ : ∃ RT, kRoot (pLeaves seed) = RT := ⟨_, rfl⟩
  rw [hRTe] at hRT hir hzr cr
  obtain ⟨LV, hLVe⟩ : ∃ LV, pLeaves seed = LV := ⟨_, rfl⟩
  rw [hLVe] at cn cr
  have HRT := hide hRTe
  have HLV := hide hLVe
  have HRL := hide hRT
  obtain ⟨n, hn⟩ : ∃ n, D.length = n := ⟨_, rfl⟩
  rw [hn] at hd hs
  rw [hn]
  have HN := hide hn
  have Hh := hide h
  clear hRTe hLVe hRT hn hD hDl tabs h
  go_enter Tryd.func3, Tryd.ntmps3
  go_wp2_with fail
  refine (unhide A _ ((unhide HT).below b0 (Nat.le_refl _))).mono ?_
  rintro e w1 ⟨rfl, b1⟩
  have bW1 := b0.trans (b1.mono b0.size)
  have q1 := Below.at b1 (Array.getElem?_eq_some_iff.1 q0).1 q0
  clear b1 q0 b0
  go_wp2_with (refine wpList_load_row rfl 23 (.tmp 2) rfl w.heap.size rfl 23 _ (0, 0) _ q1 Tryd.underlying23 rfl hi0 ?_)
  refine (unhide cn _ ((unhide HT).below bW1 (Nat.le_refl _))).mono ?_
  rintro e w2 ⟨rfl, hD2, b2⟩
  have bW2 := bW1.trans (b2.mono bW1.size)
  obtain ⟨G0, hG0⟩ : ∃ G, w1.heap.size + 1 + 1 = G := ⟨_, rfl⟩
  rw [hG0] at hD2
  rw [hG0]
  have i1 := unhide hsi 0 (.slice (some ⟨G0, 0, none⟩) 16 16)
  have o1 := unhide hso 0 (some ⟨G0, 0, none⟩) 16 16
  have z1 := unhide hsz 0 (.slice (some ⟨G0, 0, none⟩) 16 16)
  obtain ⟨C1, hC1⟩ : ∃ C, sgc seed 0 (.slice (some ⟨G0, 0, none⟩) 16 16) = C := ⟨_, rfl⟩
  have cr1 := unhide cr 0 (some ⟨G0, 0, none⟩) 16
  rw [hC1] at i1 o1 z1 cr1
  rw [hC1]
  have CR := hide cr1
  have HC1 := hide hC1
  clear hG0 hC1 cr1 q1 b2 bW1 hi0
  go_wp2_with (first
    | (refine wpList_store_newV rfl 27 (.tmp 5) (.tmp 21) rfl w2 sg0 _ C1 rfl rfl i1 z1 o1 ?_; intro w3 q3 b3 zz3)
    | (refine wpList_load_row rfl 27 (.tmp 5) rfl w2.heap.size rfl 27 C1 (0, 0) _ q3 Tryd.underlying27 rfl i1 ?_))
  have bW3 := bW2.trans (b3.mono bW2.size)
  have hD3 := hD2.below b3 (Nat.le_refl _)
  refine (unhide CR _ hD3 ((unhide HT).below bW3 (Nat.le_refl _))).mono ?_
  rintro e w4 ⟨rfl, b4⟩
  have bW4 := bW3.trans (b4.mono bW3.size)
  have q4 := Below.at b4 (Array.getElem?_eq_some_iff.1 q3).1 q3
  have hD4 := hD3.below b4 (Nat.le_refl _)
  have z4 := (Array.getElem?_eq_some_iff.1 q4).1
  have zw2 := bW2.size
  obtain ⟨G5, hG5⟩ : ∃ G, w2.heap.size = G := ⟨_, rfl⟩
  rw [hG5] at q4 z4 zw2
  rw [hG5]
  clear q3 b3 b4 hD2 hD3 bW3 hG5 CR zz3 bW2 i1 o1 z1
  go_wp2_with (refine wpList_store_new rfl 23 (.tmp 6) (.tmp 23) rfl w4 _ _ RT rfl rfl hir hzr ?_; intro w5 q6 b5 z5)
  have bW5 := bW4.trans (b5.mono bW4.size)
  have q5 := Below.at b5 z4 q4
  have hD5 := hD4.below b5 (Nat.le_refl _)
  obtain ⟨G6, hG6⟩ : ∃ G, w4.heap.size = G := ⟨_, rfl⟩
  rw [hG6] at q6 z4
  rw [hG6]
  have zw4 := bW4.size
  rw [hG6] at zw4
  clear b5 q4 hD4 bW4 hG6 z5
  go_loopw [26] (fun i wr => ∃ j x gc cap : Nat, j ≤ n ∧ i = .int .i64 (j : Int) ∧ x = min j 16 ∧ Below w.heap.size w wr ∧ wr.heap[G5]? = some (.cells (sgc seed (x : Int) (.slice (some ⟨gc, 0, none⟩) 16 cap)) 27 (0, 0)) ∧ wr.heap[G6]? = some (.cells (bc RT) 23 (0, 0)) ∧ DL wr (some ⟨gc, 0, none⟩) LV) (fun i _ => n - (intOf i).toNat)
  case atStart => exact ⟨0, 0, G0, 16, by omega, rfl, by simp, bW5, by rw [q5, ← unhide HC1]; rfl, q6, hD5⟩
  case round =>
    obtain ⟨j, x, gc, cap, hj, rfl, hx, hb, p5, p6, hDg⟩ := hrel
    clear q5 q6 hD5 bW5 HC1
    by_cases hlt : j < n
    case neg =>
      have hdj : decide (j < n) = false := by simpa using hlt
      go_wp2_with fail
      refine (unhide A _ ((unhide HT).below hb (Nat.le_refl _))).mono ?_
      rintro e w6 ⟨rfl, b6⟩
      go_wp2_with fail
      go_ret
      exact ⟨rfl, hb.trans (b6.mono hb.size)⟩
    have hdj : decide (j < n) = true := by simpa using hlt
    have bk : (j : Int) < (n : Int) := by omega
    have hDw := (unhide HD).below hb (Nat.le_refl _)
    obtain ⟨b, off, rfl, hzb, hbr⟩ := hDw.2 (by intro h0; have := unhide HN; rw [h0] at this; simp at this; omega)
    have hr0 := hbr j (by rw [unhide HN]; exact hlt)
    have hdl := hDw.len j (by rw [unhide HN]; exact hlt)
    obtain ⟨DJ, hDJ⟩ : ∃ DJ, D.getD j [] = DJ := ⟨_, rfl⟩
    rw [hDJ] at hr0 hdl
    have hr := hide hr0
    have hil : (Tryd.prog.info? 23).map (·.size) = some (Lib.byteCells DJ).length := by rw [Lib.byteCells_length, hdl]; kernel_rfl
    have hid := digInfo DJ hdl
    have hdz := zeroSize DJ hdl
    have hiC := unhide hsi (x : Int) (.slice (some ⟨gc, 0, none⟩) 16 cap)
    have z5 := (Array.getElem?_eq_some_iff.1 p5).1
    have z6 := (Array.getElem?_eq_some_iff.1 p6).1
    have hLL : LV.length = 16 := by rw [← unhide HLV]; exact pLeaves_len _
    have hL32 : ∀ d ∈ LV, d.length = 32 := by rw [← unhide HLV]; exact pLeaves_32 _
    have HLL := hide hLL
    have HL32 := hide hL32
    have HDL := hide hdl
    clear hDw hbr hr0 hDJ hzb
    by_cases hj16 : j < 16
    case pos =>
      obtain rfl : x = j := by omega
      clear hx
      have cs := hide fun W hD t => ksign_calls seed (unhide Hh) x hj16 LV hLL gc 0 cap DJ hdl W hD t
      have eRT : kRoot LV = RT := by rw [← unhide HLV]; exact unhide HRT
      have cv0 := fun B cs W hS t => verify_true seed DJ (unhide Hh) hdl LV hLL hL32 x hj16 (by rw [← unhide HLV]; exact pLeaves_get seed x hj16) B cs W hS t
      rw [eRT] at cv0
      have cv := hide cv0
      clear cv0 eRT
      have ca := hide fun W hD t => again_calls seed (unhide Hh) (x : Int) LV hLL (some ⟨gc, 0, none⟩) cap x hj16 DJ hdl W hD t
      obtain ⟨C, hC⟩ : ∃ C, sgc seed (x : Int) (.slice (some ⟨gc, 0, none⟩) 16 cap) = C := ⟨_, rfl⟩
      have hoC := unhide hso (x : Int) (some ⟨gc, 0, none⟩) 16 cap
      have hzC := unhide hsz (x : Int) (.slice (some ⟨gc, 0, none⟩) 16 cap)
      rw [hC] at cs ca hiC p5 hoC hzC
      have hge : decide ((16 : Int) ≤ (x : Int)) = false := by simp; omega
      clear hC hLL hL32 hdl
      go_wp2_with (first
        | (refine wpList_load_mid_gk rfl 23 (.tmp 29) rfl b (off + x * 32) rfl (Lib.byteCells DJ) _ (unhide hr) Tryd.underlying23 rfl hil ?_)
        | (refine wpList_store_new rfl 23 (.tmp 8) (.tmp 30) rfl wr _ _ DJ rfl rfl hid hdz ?_; intro w6 q8 b6 zz6; have q5 := Below.at b6 z5 p5)
        | (refine wpList_load_row rfl 27 (.tmp 5) rfl G5 rfl 27 C (0, 0) _ q5 Tryd.underlying27 rfl hiC ?_)
        | (refine wpList_load_row rfl 23 (.tmp 8) rfl wr.heap.size rfl 23 _ (0, 0) _ q8 Tryd.underlying23 rfl hid ?_))
      have bW6 := hb.trans (b6.mono hb.size)
      have q6 := Below.at b6 z6 p6
      have hD6 := hDg.below b6 (Nat.le_refl _)
      refine (unhide cs _ hD6 ((unhide HT).below bW6 (Nat.le_refl _))).mono ?_
      rintro e w7 ⟨⟨gn, capn, cg, rfl, hgn, hDn, hS7⟩, b7⟩
      have bW7 := bW6.trans (b7.mono bW6.size)
      have r5 := Below.at b7 (Array.getElem?_eq_some_iff.1 q5).1 q5
      have r6 := Below.at b7 (Array.getElem?_eq_some_iff.1 q6).1 q6
      have r8 := Below.at b7 (Array.getElem?_eq_some_iff.1 q8).1 q8
      have hD7 := hD6.below b7 (Nat.le_refl _)
      have hcz := hS7.size
      have hx0 := hide hS7.head
      have hui : (Tryd.prog.info? 31).map (·.size) = some cg.size := sig_info cg hcz.1
      have huq : sigZ.size = cg.size := by rw [hcz.1]; rfl
      have huo := hcz.2
      have i2 := unhide hsi ((x : Int) + 1) (.slice (some ⟨gn, 0, none⟩) 16 capn)
      have o2 := unhide hso ((x : Int) + 1) (some ⟨gn, 0, none⟩) 16 capn
      have z2 := unhide hsz ((x : Int) + 1) (.slice (some ⟨gn, 0, none⟩) 16 capn)
      have n2 := hide (sgc_next seed (unhide Hh) ((x : Int) + 1) (.slice (some ⟨gn, 0, none⟩) 16 capn))
      have cr2 := hide fun W hD t => unhide cr ((x : Int) + 1) (some ⟨gn, 0, none⟩) capn W hD t
      obtain ⟨C2, hC2⟩ : ∃ C, sgc seed ((x : Int) + 1) (.slice (some ⟨gn, 0, none⟩) 16 capn) = C := ⟨_, rfl⟩
      rw [hC2] at i2 o2 z2 n2 cr2
      rw [hC2]
      have HC2 := hide hC2
      have HS7 := hide hS7
      obtain ⟨a0, a1⟩ := al2 w7 (.cells sg0 27) (.cells sigZ 31)
      have s1 := (setRow_other ((w7.alloc (.cells sg0 27)).alloc (.cells sigZ 31)) w7.heap.size (w7.heap.size + 1) C2 (by omega)).trans a1
      have s0 := (setRow_other (((w7.alloc (.cells sg0 27)).alloc (.cells sigZ 31)).setRow w7.heap.size C2) (w7.heap.size + 1) w7.heap.size cg (by omega)).trans (setRow_heap _ _ _ C2 _ _ a0)
      have s2 := setRow_heap _ _ _ cg _ _ s1
      have bX : Below w7.heap.size w7 ((((w7.alloc (.cells sg0 27)).alloc (.cells sigZ 31)).setRow w7.heap.size C2).setRow (w7.heap.size + 1) cg) := below_setRow (below_setRow (bel2 w7 _ _) (Nat.le_refl _) _) (by omega) _
      have hgnz : gn < w7.heap.size := by
        obtain ⟨b', off', e', h', _⟩ := hDn.2 (by intro h0; have := unhide HLL; rw [h0] at this; simp at this)
        cases e'; exact h'
      have hGn5 : G5 < gn := Nat.lt_of_lt_of_le (Array.getElem?_eq_some_iff.1 q5).1 hgn
      clear hcz hC2 hS7 b7 bW6 hD6 q5 q6 q8 b6 zz6 hDg p5 p6 cs hb
      go_upto_region 11 with (first
        | (refine wpList_store_row rfl 27 (.tmp 9) (.tmp 35) rfl w7.heap.size C2 rfl rfl 27 _ a0 i2 z2 o2 ?_)
        | (refine wpList_store_row rfl 31 (.tmp 10) (.tmp 36) rfl (w7.heap.size + 1) cg rfl rfl 31 _ s1 hui huq huo ?_))
      obtain ⟨X, hX⟩ : ∃ X, (((w7.alloc (.cells sg0 27)).alloc (.cells sigZ 31)).setRow w7.heap.size C2).setRow (w7.heap.size + 1) cg = X := ⟨_, rfl⟩
      change Code.wp _ _ _ _ ((((w7.alloc (.cells sg0 27)).alloc (.cells sigZ 31)).setRow w7.heap.size C2).setRow (w7.heap.size + 1) cg)
      rw [hX] at s0 s2 bX
      rw [hX]
      have bWX : Below w.heap.size w X := bW7.trans (bX.mono bW7.size)
      have u5 := Below.at bX (Array.getElem?_eq_some_iff.1 r5).1 r5
      have u6 := Below.at bX (Array.getElem?_eq_some_iff.1 r6).1 r6
      have u8 := Below.at bX (Array.getElem?_eq_some_iff.1 r8).1 r8
      have hDX := hD7.below bX (Nat.le_refl _)
      have hEX := hDn.below bX (Nat.le_refl _)
      have HSX := hide ((unhide HS7).below bX)
      obtain ⟨G9, hG9⟩ : ∃ G, w7.heap.size = G := ⟨_, rfl⟩
      obtain ⟨G8, hG8⟩ : ∃ G, wr.heap.size = G := ⟨_, rfl⟩
      rw [hG9] at s0 s2 hgnz
      rw [hG8] at u8
      rw [hG9, hG8]
      clear hX s1 a0 a1 bX r5 r6 r8 hD7 hDn HS7 bW7 hG9 hG8 huo huq
      go_wp2_with (first
        | (refine wpList_load_row rfl 27 (.tmp 5) rfl G5 rfl 27 C (0, 0) _ u5 Tryd.underlying27 rfl hiC ?_)
        | (refine wpList_load_row rfl 23 (.tmp 8) rfl G8 rfl 23 _ (0, 0) _ u8 Tryd.underlying23 rfl hid ?_))
      refine (unhide ca _ hDX ((unhide HT).below bWX (Nat.le_refl _))).mono ?_
      rintro e w8 ⟨⟨ch, rfl, hS8⟩, b8⟩
      have bW8 := bWX.trans (b8.mono bWX.size)
      have v5 := Below.at b8 (Array.getElem?_eq_some_iff.1 u5).1 u5
      have v6 := Below.at b8 (Array.getElem?_eq_some_iff.1 u6).1 u6
      have v8 := Below.at b8 (Array.getElem?_eq_some_iff.1 u8).1 u8
      have v9 := Below.at b8 (Array.getElem?_eq_some_iff.1 s0).1 s0
      have v10 := Below.at b8 (Array.getElem?_eq_some_iff.1 s2).1 s2
      have hE8 := hEX.below b8 (Nat.le_refl _)
      have HSg8 := hide ((unhide HSX).below b8)
      have hcz := hS8.size
      have hci : (Tryd.prog.info? 31).map (·.size) = some ch.size := sig_info ch hcz.1
      have hcq : sigZ.size = ch.size := by rw [hcz.1]; rfl
      have hco := hcz.2
      have HS8 := hide hS8
      clear hS8 hcz u5 u6 u8 s0 s2 hDX hEX HSX b8 bWX ca
      go_upto_region 15 with (refine wpList_store_newV rfl 31 (.tmp 12) (.tmp 53) rfl w8 sigZ _ ch rfl rfl hci hcq hco ?_; intro w9 q12 b9 z9)
      have bW9 := bW8.trans (b9.mono bW8.size)
      have y5 := Below.at b9 (Array.getElem?_eq_some_iff.1 v5).1 v5
      have y6 := Below.at b9 (Array.getElem?_eq_some_iff.1 v6).1 v6
      have y8 := Below.at b9 (Array.getElem?_eq_some_iff.1 v8).1 v8
      have y9 := Below.at b9 (Array.getElem?_eq_some_iff.1 v9).1 v9
      have y10 := Below.at b9 (Array.getElem?_eq_some_iff.1 v10).1 v10
      have hE9 := hE8.below b9 (Nat.le_refl _)
      have HSg9 := hide ((unhide HSg8).below b9)
      have HS9 := hide ((unhide HS8).below b9)
      have t9 := (unhide HT).below bW9 (Nat.le_refl _)
      obtain ⟨G12, hG12⟩ : ∃ G, w8.heap.size = G := ⟨_, rfl⟩
      rw [hG12] at q12
      rw [hG12]
      have R6 : Hid (∀ w', (∃ p : Regrown, w' = Sort.grow (redrawn w9 p.d) p.os) → w'.heap[G6]? = some (.cells (bc RT) 23 (0, 0))) := fun w' ⟨p, hp⟩ => by rw [hp]; exact Below.at (below_regrown w9 p.d p.os) (Array.getElem?_eq_some_iff.1 y6).1 y6
      have R8 : Hid (∀ w', (∃ p : Regrown, w' = Sort.grow (redrawn w9 p.d) p.os) → w'.heap[G8]? = some (.cells (bc DJ) 23 (0, 0))) := fun w' ⟨p, hp⟩ => by rw [hp]; exact Below.at (below_regrown w9 p.d p.os) (Array.getElem?_eq_some_iff.1 y8).1 y8
      have R9 : Hid (∀ w', (∃ p : Regrown, w' = Sort.grow (redrawn w9 p.d) p.os) → w'.heap[G9]? = some (.cells C2 27 (0, 0))) := fun w' ⟨p, hp⟩ => by rw [hp]; exact Below.at (below_regrown w9 p.d p.os) (Array.getElem?_eq_some_iff.1 y9).1 y9
      have R10 : Hid (∀ w', (∃ p : Regrown, w' = Sort.grow (redrawn w9 p.d) p.os) → w'.heap[G9 + 1]? = some (.cells cg 31 (0, 0))) := fun w' ⟨p, hp⟩ => by rw [hp]; exact Below.at (below_regrown w9 p.d p.os) (Array.getElem?_eq_some_iff.1 y10).1 y10
      have R12 : Hid (∀ w', (∃ p : Regrown, w' = Sort.grow (redrawn w9 p.d) p.os) → w'.heap[G12]? = some (.cells ch 31 (0, 0))) := fun w' ⟨p, hp⟩ => by rw [hp]; exact Below.at (below_regrown w9 p.d p.os) (Array.getElem?_eq_some_iff.1 q12).1 q12
      have d9 : ∀ d os, (Sort.grow (redrawn w9 d) os).cell? ⟨G9, 32, none⟩ = some (.int .i64 ((x : Int) + 1)) := fun d os => by
        rw [(below_regrown w9 d os).cell (p := ⟨G9, 32, none⟩) (Array.getElem?_eq_some_iff.1 y9).1, cell_of_row _ _ _ _ _ _ y9]; exact unhide n2
      have d10 : ∀ d os, (Sort.grow (redrawn w9 d) os).cell? ⟨G9 + 1, 0, none⟩ = some (.int .i64 (x : Int)) := fun d os => by
        rw [(below_regrown w9 d os).cell (p := ⟨G9 + 1, 0, none⟩) (Array.getElem?_eq_some_iff.1 y10).1, cell_of_row _ _ _ _ _ _ y10]; exact unhide hx0
      have kV := hide fun d os => Calls.regrown_of (w := w9) (d := d) (os := os) (unhide cv _ _ _ ((unhide HSg9).below (below_regrown w9 d os)) (t9.below (below_regrown w9 d os) (Nat.le_refl _)))
      have kS := hide fun d os => Calls.regrown_of (w := w9) (d := d) (os := os) (((unhide HS9).below (below_regrown w9 d os)).same (unhide HLL) ((unhide HSg9).below (below_regrown w9 d os)) (pathB_length _ (unhide HLL) (unhide HL32) x hj16 4 (Nat.le_refl _)))
      have kR := hide fun d os => Calls.regrown_of (w := w9) (d := d) (os := os) (unhide cr2 _ (hE9.below (below_regrown w9 d os) (Nat.le_refl _)) (t9.below (below_regrown w9 d os) (Nat.le_refl _)))
      have hne := hide fun W => dig_neqK RT (unhide HRL) W
      have hwx : IntKind.i64.wrap ((x : Int) + 1) = (x : Int) + 1 := wi64 _ (by omega) (by omega)
      clear q12 v5 v6 v8 v9 v10 y8 y10 b9 z9 bW8 hE8 HSg8 HS8 HSg9 HS9 t9 hG12 hcq hco n2 hx0 cv cr2 hid hil hdz hr
      refine wp_region_below mixed (by kernel_rfl) ?_
      iterate 20 quiet_step (fail)
      refine wpQuiet_load_row rfl 23 (.tmp 6) rfl G6 rfl 23 _ (0, 0) _ (unhide R6) Tryd.underlying23 rfl hir ?_
      refine wpQuiet_load_row rfl 23 (.tmp 8) rfl G8 rfl 23 _ (0, 0) _ (unhide R8) Tryd.underlying23 rfl (digInfo DJ (unhide HDL)) ?_
      refine wpQuiet_load_row rfl 31 (.tmp 10) rfl (G9 + 1) rfl 31 cg (0, 0) _ (unhide R10) Tryd.underlying31 rfl hui ?_
      quiet_step (exact unhide kV _ _)
      quiet_step (fail)
      quiet_step (fail)
      quiet_step (fail)
      refine wpQuiet_load_row rfl 31 (.tmp 12) rfl G12 rfl 31 ch (0, 0) _ (unhide R12) Tryd.underlying31 rfl hci ?_
      refine wpQuiet_load_row rfl 31 (.tmp 10) rfl (G9 + 1) rfl 31 cg (0, 0) _ (unhide R10) Tryd.underlying31 rfl hui ?_
      quiet_step (exact unhide kS _ _)
      quiet_step (fail)
      quiet_step (fail)
      quiet_step (fail)
      refine wpQuiet_load_row rfl 27 (.tmp 9) rfl G9 rfl 27 C2 (0, 0) _ (unhide R9) Tryd.underlying27 rfl i2 ?_
      quiet_step (exact unhide kR _ _)
      refine wpQuiet_load_row rfl 23 (.tmp 6) rfl G6 rfl 23 _ (0, 0) _ (unhide R6) Tryd.underlying23 rfl hir ?_
      refine wpQuiet_neqK rfl 23 23 (.tmp 89) (.tmp 90) rfl _ _ rfl rfl (by kernel_rfl) false (unhide hne) ?_
      quiet_step (fail)
      refine wpQuiet_nil ?_
      intro w10 b10
      have bW10 := bW9.trans (b10.mono bW9.size)
      have x5 := Below.at b10 (Array.getElem?_eq_some_iff.1 y5).1 y5
      have x6 := Below.at b10 (Array.getElem?_eq_some_iff.1 y6).1 y6
      have x9 := Below.at b10 (Array.getElem?_eq_some_iff.1 y9).1 y9
      have hE10 := hE9.below b10 (Nat.le_refl _)
      clear R6 R8 R9 R10 R12 d9 d10 kV kS kR hne y5 y6 y9 b10 bW9 hE9
      go_wp2_with (first
        | (refine wpList_load_row rfl 27 (.tmp 9) rfl G9 rfl 27 C2 (0, 0) _ x9 Tryd.underlying27 rfl i2 ?_)
        | (refine wpList_store_row rfl 27 (.tmp 5) (.tmp 93) rfl G5 C2 rfl rfl 27 _ x5 i2 (hzC.symm.trans z2) o2 ?_))
      go_roundw
      case rel => exact ⟨x + 1, x + 1, gn, capn, by omega, by go_num, by omega, below_setRow bW10 zw2 _, by rw [setRow_heap _ _ _ C2 _ _ x5, ← unhide HC2]; rfl, (setRow_other _ _ _ _ (by omega)).trans x6, hE10.other (setRow_size _ _ _) (fun _ b' off' e' => by cases e'; exact setRow_other _ _ _ _ (by omega))⟩
      case measure => simp [intOf]; omega
    case neg =>
      obtain rfl : x = 16 := by omega
      clear hx
      have cs := hide fun W hD t => ksign_spent seed (unhide Hh) 16 rfl LV hLL gc 0 cap DJ hdl W hD t
      have cm := hide fun gn capn W hD1 hD2 => same_calls seed (unhide Hh) ((16 : Nat) : Int) LV hLL (some ⟨gn, 0, none⟩) (some ⟨gc, 0, none⟩) capn cap W hD1 hD2
      obtain ⟨C, hC⟩ : ∃ C, sgc seed ((16 : Nat) : Int) (.slice (some ⟨gc, 0, none⟩) 16 cap) = C := ⟨_, rfl⟩
      have hoC := unhide hso ((16 : Nat) : Int) (some ⟨gc, 0, none⟩) 16 cap
      have hzC := unhide hsz ((16 : Nat) : Int) (.slice (some ⟨gc, 0, none⟩) 16 cap)
      rw [hC] at cs cm hiC p5 hoC hzC
      have HC := hide hC
      have hge : decide ((16 : Int) ≤ (j : Int)) = true := by simp; omega
      clear hC hLL hL32 hdl
      go_wp2_with (first
        | (refine wpList_load_mid_gk rfl 23 (.tmp 29) rfl b (off + j * 32) rfl (Lib.byteCells DJ) _ (unhide hr) Tryd.underlying23 rfl hil ?_)
        | (refine wpList_store_new rfl 23 (.tmp 8) (.tmp 30) rfl wr _ _ DJ rfl rfl hid hdz ?_; intro w6 q8 b6 zz6; have q5 := Below.at b6 z5 p5)
        | (refine wpList_load_row rfl 27 (.tmp 5) rfl G5 rfl 27 C (0, 0) _ q5 Tryd.underlying27 rfl hiC ?_)
        | (refine wpList_load_row rfl 23 (.tmp 8) rfl wr.heap.size rfl 23 _ (0, 0) _ q8 Tryd.underlying23 rfl hid ?_))
      have bW6 := hb.trans (b6.mono hb.size)
      have q6 := Below.at b6 z6 p6
      have hD6 := hDg.below b6 (Nat.le_refl _)
      refine (unhide cs _ hD6 ((unhide HT).below bW6 (Nat.le_refl _))).mono ?_
      rintro e w7 ⟨⟨gn, capn, rfl, hgn, hDn⟩, b7⟩
      have bW7 := bW6.trans (b7.mono bW6.size)
      have r5 := Below.at b7 (Array.getElem?_eq_some_iff.1 q5).1 q5
      have r6 := Below.at b7 (Array.getElem?_eq_some_iff.1 q6).1 q6
      have hD7 := hD6.below b7 (Nat.le_refl _)
      have hui : (Tryd.prog.info? 31).map (·.size) = some sigZ.size := by kernel_rfl
      have i2 := unhide hsi ((16 : Nat) : Int) (.slice (some ⟨gn, 0, none⟩) 16 capn)
      have o2 := unhide hso ((16 : Nat) : Int) (some ⟨gn, 0, none⟩) 16 capn
      have z2 := unhide hsz ((16 : Nat) : Int) (.slice (some ⟨gn, 0, none⟩) 16 capn)
      have cm2 := unhide cm gn capn
      obtain ⟨C2, hC2⟩ : ∃ C, sgc seed ((16 : Nat) : Int) (.slice (some ⟨gn, 0, none⟩) 16 capn) = C := ⟨_, rfl⟩
      rw [hC2] at i2 o2 z2 cm2
      rw [hC2]
      have CM := hide cm2
      obtain ⟨SZ, hSZ⟩ : ∃ S, sigZ = S := ⟨_, rfl⟩
      have hsz1 : sigZ.size = SZ.size := by rw [hSZ]
      have hso1 : SZ.all (·.oneCell') = true := by rw [← hSZ]; kernel_rfl
      have hui2 : (Tryd.prog.info? 31).map (·.size) = some SZ.size := by rw [← hSZ]; exact hui
      obtain ⟨a0, a1⟩ := al2 w7 (.cells sg0 27) (.cells sigZ 31)
      have s1 := (setRow_other ((w7.alloc (.cells sg0 27)).alloc (.cells sigZ 31)) w7.heap.size (w7.heap.size + 1) C2 (by omega)).trans a1
      have s0 := (setRow_other (((w7.alloc (.cells sg0 27)).alloc (.cells sigZ 31)).setRow w7.heap.size C2) (w7.heap.size + 1) w7.heap.size SZ (by omega)).trans (setRow_heap _ _ _ C2 _ _ a0)
      have bX : Below w7.heap.size w7 ((((w7.alloc (.cells sg0 27)).alloc (.cells sigZ 31)).setRow w7.heap.size C2).setRow (w7.heap.size + 1) SZ) := below_setRow (below_setRow (bel2 w7 _ _) (Nat.le_refl _) _) (by omega) _
      have hagg := hide (show Value.agg sigZ = Value.agg SZ by rw [hSZ])
      clear hC2 b7 bW6 hD6 q5 q6 q8 b6 zz6 hDg p5 p6 cs cm cm2 hb hgn hui hSZ
      go_upto_region 11 with (first
        | (refine wpList_store_row rfl 27 (.tmp 9) (.tmp 35) rfl w7.heap.size C2 rfl rfl 27 _ a0 i2 z2 o2 ?_)
        | (refine wpList_store_row rfl 31 (.tmp 10) (.tmp 36) rfl (w7.heap.size + 1) SZ rfl (unhide hagg) 31 _ s1 hui2 hsz1 hso1 ?_))
      obtain ⟨X, hX⟩ : ∃ X, (((w7.alloc (.cells sg0 27)).alloc (.cells sigZ 31)).setRow w7.heap.size C2).setRow (w7.heap.size + 1) SZ = X := ⟨_, rfl⟩
      change Code.wp _ _ _ _ ((((w7.alloc (.cells sg0 27)).alloc (.cells sigZ 31)).setRow w7.heap.size C2).setRow (w7.heap.size + 1) SZ)
      rw [hX] at s0 bX
      rw [hX]
      have bWX : Below w.heap.size w X := bW7.trans (bX.mono bW7.size)
      have u5 := Below.at bX (Array.getElem?_eq_some_iff.1 r5).1 r5
      have u6 := Below.at bX (Array.getElem?_eq_some_iff.1 r6).1 r6
      have hDX := hD7.below bX (Nat.le_refl _)
      have hEX := hDn.below bX (Nat.le_refl _)
      obtain ⟨G9, hG9⟩ : ∃ G, w7.heap.size = G := ⟨_, rfl⟩
      rw [hG9] at s0
      rw [hG9]
      clear hX s1 a0 a1 bX r5 r6 hD7 hDn bW7 hG9 hagg hsz1 hso1 hui2 z2 o2
      go_wp2_with (first
        | (refine wpList_load_row_gd rfl 27 (.tmp 9) rfl G9 rfl 27 C2 (0, 0) _ s0 Tryd.underlying27 rfl i2 ?_)
        | (refine wpList_load_row_gd rfl 27 (.tmp 5) rfl G5 rfl 27 C (0, 0) _ u5 Tryd.underlying27 rfl hiC ?_))
      refine (unhide CM _ hEX hDX).mono ?_
      rintro e w8 ⟨rfl, b8⟩
      have bW8 := bWX.trans (b8.mono bWX.size)
      have v5 := Below.at b8 (Array.getElem?_eq_some_iff.1 u5).1 u5
      have v6 := Below.at b8 (Array.getElem?_eq_some_iff.1 u6).1 u6
      have hD8 := hDX.below b8 (Nat.le_refl _)
      clear u5 u6 s0 hEX hDX b8 bWX CM
      go_wp2_with fail
      go_roundw
      case rel => exact ⟨j + 1, 16, gc, cap, by omega, by go_num, by omega, bW8, by rw [unhide HC]; exact v5, v6, hD8⟩
      case measure => simp [intOf]; omega
end Go.Proofs.YtjoefhdclghgaaaDoor

namespace Go.Proofs.YtjoefhdclghgaaaDoor
open Go.ChangeShapes Go.WideShapes Go.ChangeAt Go.RowKit

theorem shaOwn : ownKnob Tryd.prog.godebug = none := by kernel_rfl
theorem shaLaidOut : laidOutB Tryd.prog = true := by kernel_rfl
theorem gFirst : Tryd.prog.globalNamed "pontoon/sha.firstWords" = some 0 := by kernel_rfl
theorem gFirstType : (Tryd.prog.globals[0]?).map (·.type) = some 95 := by kernel_rfl
theorem gRound : Tryd.prog.globalNamed "pontoon/sha.roundWords" = some 1 := by kernel_rfl
theorem gRoundType : (Tryd.prog.globals[1]?).map (·.type) = some 112 := by kernel_rfl
theorem cells64 : Tryd.prog.cellsOf 112 = 64 := by kernel_rfl
theorem cells8 : Tryd.prog.cellsOf 95 = 8 := by kernel_rfl
theorem cellsW : Tryd.prog.cellsOf 76 = 1 := by kernel_rfl

/-- What a row lists of package sha. -/
def shaListed : List (String × DataW Unit) := [("pontoon/sha.firstWords", Rows.laid_pontoon_sha_firstWords), ("pontoon/sha.roundWords", Rows.laid_pontoon_sha_roundWords)]
def kInts : List Int := [1116352408, 1899447441, 3049323471, 3921009573, 961987163, 1508970993, 2453635748, 2870763221, 3624381080, 310598401, 607225278, 1426881987, 1925078388, 2162078206, 2614888103, 3248222580, 3835390401, 4022224774, 264347078, 604807628, 770255983, 1249150122, 1555081692, 1996064986, 2554220882, 2821834349, 2952996808, 3210313671, 3336571891, 3584528711, 113926993, 338241895, 666307205, 773529912, 1294757372, 1396182291, 1695183700, 1986661051, 2177026350, 2456956037, 2730485921, 2820302411, 3259730800, 3345764771, 3516065817, 3600352804, 4094571909, 275423344, 430227734, 506948616, 659060556, 883997877, 958139571, 1322822218, 1537002063, 1747873779, 1955562222, 2024104815, 2227730452, 2361852424, 2428436474, 2756734187, 3204031479, 3329325298]
def hInts : List Int := [1779033703, 3144134277, 1013904242, 2773480762, 1359893119, 2600822924, 528734635, 1541459225]
theorem kInts_at : ∀ j, j < 64 → kInts.getD j 0 = ((kWords.getD j 0).toNat : Int) := by decide +kernel
theorem hInts_at : ∀ j, j < 8 → hInts.getD j 0 = ((hWords.getD j 0).toNat : Int) := by decide +kernel

theorem tabs_of {W : World} (h : laidMetH Tryd.prog shaListed W) : Tabs W := by
  have h1 : Lib.TabIs Tryd.prog W "pontoon/sha.firstWords" .u32 hInts :=
    Lib.tabIs_of_head (rest := [("pontoon/sha.roundWords", Rows.laid_pontoon_sha_roundWords)]) gFirst gFirstType Tryd.underlying95 Tryd.underlying76 cellsW cells8 h
  have e : shaListed.filter (fun x => x.1 == "pontoon/sha.roundWords") = [("pontoon/sha.roundWords", Rows.laid_pontoon_sha_roundWords)] := by kernel_rfl
  have hf := h.filter (fun x => x.1 == "pontoon/sha.roundWords")
  rw [e] at hf
  have h2 : Lib.TabIs Tryd.prog W "pontoon/sha.roundWords" .u32 kInts :=
    Lib.tabIs_of_head (rest := []) gRound gRoundType Tryd.underlying112 Tryd.underlying76 cellsW cells64 hf
  have k : ∀ j, j < 64 → W.cell? ⟨1, j, none⟩ = some (.int .u32 ((kWords.getD j 0).toNat : Int)) := fun j hj => by
    rw [← kInts_at j hj]; exact h2.cell gRound j (by simpa [kInts] using hj)
  have hh : ∀ j, j < 8 → W.cell? ⟨0, j, none⟩ = some (.int .u32 ((hWords.getD j 0).toNat : Int)) := fun j hj => by
    rw [← hInts_at j hj]; exact h1.cell gFirst j (by simpa [hInts] using hj)
  exact ⟨⟨block_lt_of_cell (hh 0 (by decide)), block_lt_of_cell (k 0 (by decide))⟩, k, hh⟩

/-- A variable's cells turned. -/
def layCells (cs : Array Value) : Obj → Obj
  | .cells _ t frozen => .cells cs t frozen
  | o => o
def hCells : Array Value := #[.int .u32 1779033703, .int .u32 3144134277, .int .u32 1013904242, .int .u32 2773480762, .int .u32 1359893119, .int .u32 2600822924, .int .u32 528734635, .int .u32 1541459225]
def kCells : Array Value := #[.int .u32 1116352408, .int .u32 1899447441, .int .u32 3049323471, .int .u32 3921009573, .int .u32 961987163, .int .u32 1508970993, .int .u32 2453635748, .int .u32 2870763221, .int .u32 3624381080, .int .u32 310598401, .int .u32 607225278, .int .u32 1426881987, .int .u32 1925078388, .int .u32 2162078206, .int .u32 2614888103, .int .u32 3248222580, .int .u32 3835390401, .int .u32 4022224774, .int .u32 264347078, .int .u32 604807628, .int .u32 770255983, .int .u32 1249150122, .int .u32 1555081692, .int .u32 1996064986, .int .u32 2554220882, .int .u32 2821834349, .int .u32 2952996808, .int .u32 3210313671, .int .u32 3336571891, .int .u32 3584528711, .int .u32 113926993, .int .u32 338241895, .int .u32 666307205, .int .u32 773529912, .int .u32 1294757372, .int .u32 1396182291, .int .u32 1695183700, .int .u32 1986661051, .int .u32 2177026350, .int .u32 2456956037, .int .u32 2730485921, .int .u32 2820302411, .int .u32 3259730800, .int .u32 3345764771, .int .u32 3516065817, .int .u32 3600352804, .int .u32 4094571909, .int .u32 275423344, .int .u32 430227734, .int .u32 506948616, .int .u32 659060556, .int .u32 883997877, .int .u32 958139571, .int .u32 1322822218, .int .u32 1537002063, .int .u32 1747873779, .int .u32 1955562222, .int .u32 2024104815, .int .u32 2227730452, .int .u32 2361852424, .int .u32 2428436474, .int .u32 2756734187, .int .u32 3204031479, .int .u32 3329325298]
/-- A world for the witness: the settled one, the two tables holding what their initialisers lay. -/
noncomputable def shaWorld (os : Os) : World :=
  { World.holding Tryd.prog os ⟨#[], #[], []⟩ with heap := ((World.holding Tryd.prog os ⟨#[], #[], []⟩).heap.modify 0 (layCells hCells)).modify 1 (layCells kCells) }
theorem addr_add (b o j : Nat) : (⟨b, o, none⟩ : Addr).add j = ⟨b, o + j, none⟩ := by unfold Addr.add; split <;> simp_all

end Go.Proofs.YtjoefhdclghgaaaDoor

namespace Go.Proofs.YtjoefhdclghgaaaDoor
open Go.ChangeShapes Go.WideShapes Go.ChangeAt Go.RowKit

theorem mapM_ints {H : Type} {enc : TypeId × Value → H} {P : Program} {W : World} {base : Nat} {sp : Nat → Bool} {held : Bool} {e : TypeId} {q : IntKind} (he : P.underlying e = some (.int q)) {m : Nat} {cs : List Value} {c : Nat} :
    ∀ (L : List Nat) (xs : List (DataW H × List MemPlace)), L.mapM (fun i => DataW.trod enc P W base sp held m e ((cs.drop (i * c)).take c)) = some xs → ∀ i ∈ L, ∃ a, (cs.drop (i * c)).take c = [.int q a] ∧ (Lit.int q a).wf = true
  | [], xs, h => by intro i hi; cases hi
  | i :: L, xs, h => by
    rw [List.mapM_cons] at h
    simp only [bind, Option.bind_eq_some_iff, pure, Option.some.injEq] at h
    obtain ⟨y, hy, ys, hys, rfl⟩ := h
    intro j hj
    rcases List.mem_cons.1 hj with rfl | hj
    · obtain ⟨a, ea, _, wa⟩ := DataW.trod_int he hy
      exact ⟨a, ea, wa⟩
    · exact mapM_ints he L ys hys j hj
/-- The numbers of an array that came in. -/
theorem open_numbers {H : Type} {enc : TypeId × Value → H} {P : Program} {W : World} {base : Nat} {sp : Nat → Bool} {held : Bool} {k e : TypeId} {n : Nat} {q : IntKind} (A : WideMaps.ArrKey P k e n) (he : P.underlying e = some (.int q))
    {xs : Array Value} (hn : xs.size = n) {d : DataW H} {ps : List MemPlace} (hd : DataW.Trod enc P W base sp held k (.agg xs) d ps) :
    ∃ zs : List Int, zs.length = n ∧ xs = (zs.map (Value.int q)).toArray ∧ ∀ z ∈ zs, (Lit.int q z).wf = true := by
  obtain ⟨fuel, hf⟩ := hd
  cases fuel with
  | zero => simp [DataW.trod] at hf
  | succ m =>
    rw [DataW.trod_step] at hf
    unfold DataW.trodStep at hf
    simp only [A.hu, Value.cells] at hf
    rw [if_pos (by rw [A.size]; simpa using hn)] at hf
    simp only [Option.map_eq_some_iff] at hf
    obtain ⟨ys, hy, e1⟩ := hf
    have hc := mapM_ints he _ ys hy
    rw [A.one] at hc
    have hc' : ∀ i, i < n → ∃ a, xs.toList[i]? = some (.int q a) ∧ (Lit.int q a).wf = true := fun i hi => by
      obtain ⟨a, ha, hw⟩ := hc i (List.mem_range.2 hi)
      refine ⟨a, ?_, hw⟩
      rw [Nat.mul_one] at ha
      have h0 : ((xs.toList.drop i).take 1)[0]? = some (.int q a) := by rw [ha]; rfl
      simpa using h0
    refine ⟨xs.toList.map intOf, by simpa using hn, ?_, ?_⟩
    · apply Array.ext'
      simp only [List.map_map]
      apply List.ext_getElem?
      intro i
      by_cases hi : i < n
      · obtain ⟨a, ha, _⟩ := hc' i hi
        rw [ha]; simp [ha, intOf]
      · rw [List.getElem?_eq_none (by simpa [hn] using Nat.le_of_not_lt hi), List.getElem?_eq_none (by simpa [hn] using Nat.le_of_not_lt hi)]
    · intro z hz
      obtain ⟨v, hv, rfl⟩ := List.mem_map.1 hz
      obtain ⟨i, hi, rfl⟩ := List.getElem_of_mem hv
      obtain ⟨a, ha, hw⟩ := hc' i (by simpa [hn] using hi)
      rw [List.getElem?_eq_getElem hi] at ha
      rw [Option.some.inj ha]; exact hw
end Go.Proofs.YtjoefhdclghgaaaDoor

namespace Go.Proofs.YtjoefhdclghgaaaDoor
open Go.ChangeShapes Go.WideShapes Go.ChangeAt Go.RowKit
set_option linter.unusedVariables false

theorem arrD : WideMaps.ArrKey Tryd.prog 23 5 32 := ⟨Tryd.underlying23, by kernel_rfl, by kernel_rfl, by kernel_rfl⟩
theorem open_digest {H : Type} {enc : TypeId × Value → H} {W : World} {base : Nat} {sp : Nat → Bool} {held : Bool} {xs : Array Value} (hn : xs.size = 32) {d : DataW H} {ps : List MemPlace} (hd : DataW.Trod enc Tryd.prog W base sp held 23 (.agg xs) d ps) :
    ∃ l : List UInt8, xs = bc l ∧ l.length = 32 := by
  obtain ⟨zs, hl, rfl, hw⟩ := open_numbers arrD Tryd.underlying5 hn hd
  have e : ∀ z ∈ zs, ((UInt8.ofNat z.toNat).toNat : Int) = z := fun z hz => by
    have := hw z hz
    simp [Lit.wf, IntKind.min, IntKind.max, IntKind.signed, IntKind.bits] at this
    rw [UInt8.toNat_ofNat']; omega
  refine ⟨zs.map fun z => UInt8.ofNat z.toNat, ?_, by simpa using hl⟩
  unfold bc Lib.byteCells
  rw [List.map_map]
  congr 1
  apply List.map_congr_left
  intro z hz
  simp only [Function.comp_apply]
  rw [e z hz]
end Go.Proofs.YtjoefhdclghgaaaDoor

namespace Go.Proofs.YtjoefhdclghgaaaDoor
open Go.ChangeShapes Go.WideShapes Go.ChangeAt Go.RowKit
set_option linter.unusedVariables false

theorem open_dl {H : Type} {enc : TypeId × Value → H} {W : World} {base : Nat} {sp : Nat → Bool} {held : Bool} {v : Value} {d : DataW H} {ps : List MemPlace} (hd : DataW.Trod enc Tryd.prog W base sp held 24 v d ps) (hv : ∃ p n cap, v = .slice p n cap) :
    ∃ p ds cap, v = .slice p ds.length cap ∧ ds.length ≤ cap ∧ ds.length ≤ maxLen ∧ DL W p ds := by
  obtain ⟨p, n0, cap0, rfl⟩ := hv
  obtain ⟨fuel, h⟩ := hd
  have hc : Tryd.prog.cellsOf 23 = 32 := by kernel_rfl
  rcases Deep.open_slice Tryd.underlying24 h with ⟨e, _⟩ | ⟨a, len, cap, m, n, D, Pl, e, hb, hlc, hcm, hm, hx, hel⟩
  · simp [Value.cells] at e
    obtain ⟨rfl, rfl, rfl⟩ := e
    exact ⟨none, [], 0, rfl, by simp, by simp, ⟨fun d hd => by simp at hd, fun hn => absurd rfl hn⟩⟩
  · simp [Value.cells] at e
    obtain ⟨rfl, rfl, rfl⟩ := e
    have hlm : n0 ≤ m := by rw [hm]; split <;> omega
    rw [hc] at hel
    have each : ∀ i, i < n0 → ∃ l : List UInt8, l.length = 32 ∧ ∀ j, j < 32 → W.cell? (a.add (i * 32 + j)) = (bc l)[j]? := fun i hi => by
      obtain ⟨cs', h1, h2⟩ := hel i (by omega)
      obtain ⟨h3, h4, h5⟩ := World.cells?_some h1
      obtain ⟨l, hl, hll⟩ := open_digest (xs := cs'.toArray) (by simpa using h4) ⟨n, h2⟩
      refine ⟨l, hll, fun j hj => ?_⟩
      have h7 := h5 j hj
      rw [Deep.add_add] at h7
      rw [h7, ← hl]
      simp
    let F : Nat → List UInt8 := fun i => if h : i < n0 then Classical.choose (each i h) else List.replicate 32 0
    have hF : ∀ i (hi : i < n0), (F i).length = 32 ∧ ∀ j, j < 32 → W.cell? (a.add (i * 32 + j)) = (bc (F i))[j]? := fun i hi => by
      have : F i = Classical.choose (each i hi) := by show (if h : i < n0 then _ else _) = _; rw [dif_pos hi]
      rw [this]; exact Classical.choose_spec (each i hi)
    refine ⟨some a, (List.range n0).map F, cap0, by simp, by simpa using hlc, by simp; omega, ⟨fun d hd => ?_, fun hn => ?_⟩⟩
    · obtain ⟨i, hi, rfl⟩ := List.mem_map.1 hd
      exact (hF i (List.mem_range.1 hi)).1
    · have h0 : 0 < n0 := by
        rcases Nat.eq_zero_or_pos n0 with h | h
        · subst h; simp at hn
        · exact h
      obtain ⟨b, off, spot⟩ := a
      have hc0 : W.cell? ((⟨b, off, spot⟩ : Addr).add (0 * 32 + 0)) = some (.int .u8 (((F 0).getD 0 0).toNat : Int)) := by
        rw [(hF 0 h0).2 0 (by omega)]; exact bc_at _ _ (by rw [(hF 0 h0).1]; omega)
      have hspot : spot = none := by simpa [Addr.add] using World.cell?_spot hc0
      subst hspot
      refine ⟨b, off, rfl, ?_, fun i hi j v hv => ?_⟩
      · have := block_lt_of_cell hc0; simpa [Addr.add] using this
      · have hi' : i < n0 := by simpa using hi
        have e1 : ((List.range n0).map F).getD i [] = F i := by simp [hi']
        rw [e1] at hv
        have hj : j < 32 := by
          have := (List.getElem?_eq_some_iff.1 hv).1
          rw [Lib.byteCells_length, (hF i hi').1] at this
          exact this
        have h8 := (hF i hi').2 j hj
        have e2 : (⟨b, off, none⟩ : Addr).add (i * 32 + j) = ⟨b, off + i * 32 + j, none⟩ := by unfold Addr.add; split <;> simp_all [Nat.add_assoc]
        rw [e2] at h8
        rw [h8]
        simpa [bc] using hv
end Go.Proofs.YtjoefhdclghgaaaDoor
