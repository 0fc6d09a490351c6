/-
  QueueOwn: what is answered shares no memory with the queue that was told, or another answer.
-/
import Derived.Test.YtljocohbdghpaaaQueO
namespace Go.Proofs.Ytljocohbdghpaaa
open Go Go.RowKit
set_option linter.unusedSimpArgs false
set_option linter.unusedVariables false

/-- All blocks of w0 but those of the first i rows are as they were. -/
def Fr (Vf : Nat → Value) (w0 : World) (i : Nat) (wr : World) : Prop :=
  wr.os = w0.os ∧ wr.tape = w0.tape ∧ wr.output = w0.output ∧ w0.heap.size ≤ wr.heap.size ∧ ∀ k, k < w0.heap.size → (∀ j, j < i → (Vf j).ownBlock ≠ some k) → wr.heap[k]? = w0.heap[k]?
theorem Fr.zero (Vf : Nat → Value) (w0 : World) : Fr Vf w0 0 w0 := ⟨rfl, rfl, rfl, Nat.le_refl _, fun _ _ _ => rfl⟩
/-- All blocks but one are as they were. -/
def In1 (g : Nat) (w w' : World) : Prop :=
  w'.os = w.os ∧ w'.tape = w.tape ∧ w'.output = w.output ∧ w.heap.size ≤ w'.heap.size ∧ ∀ k, k < w.heap.size → k ≠ g → w'.heap[k]? = w.heap[k]?
theorem In1.refl (g : Nat) (w : World) : In1 g w w := ⟨rfl, rfl, rfl, Nat.le_refl _, fun _ _ _ => rfl⟩
theorem In1.set {g : Nat} {w w' : World} (h : In1 g w w') (k : Nat) (v : Value) : In1 g w (w'.setCell ⟨g, k, none⟩ v) := by
  obtain ⟨h1, h2, h3, h4, h5⟩ := h
  refine ⟨h1, h2, h3, by simpa [World.setCell] using h4, fun j hj hne => ?_⟩
  rw [heap_setCell_other _ _ _ _ hne]
  exact h5 j hj hne
theorem Fr.next {Vf : Nat → Value} {w0 wr w' wi : World} {i g : Nat} {o : Obj} (h : Fr Vf w0 i wr) (hg : (wr.alloc o).grownBy w' (Vf i).ownBlock) (hor : (Vf i).ownBlock = some g ∨ (wr.alloc o).heap.size ≤ g) (hin : In1 g w' wi) : Fr Vf w0 (i + 1) wi := by
  obtain ⟨a1, a2, a3, a4, a5⟩ := h
  obtain ⟨b1, b2, b3, b4, b5⟩ := hin
  have hs : wr.heap.size ≤ (wr.alloc o).heap.size := by simp
  refine ⟨b1.trans (hg.os.trans a1), b2.trans (hg.tape.trans a2), b3.trans (hg.output.trans a3), by have := hg.size; omega, fun k hk hne => ?_⟩
  have hkg : k ≠ g := by
    rcases hor with e | e
    · intro h'; subst h'; exact hne i (by omega) e
    · omega
  rw [b5 k (by have := hg.size; omega) hkg, hg.block k (by omega) (fun e => hne i (by omega) e.symm), heap_alloc_old wr o (by omega)]
  exact a5 k hk (fun j hj => hne j (by omega))
theorem owns_of_block {base : Nat} {w w' : World} {t : TypeId} {s n : Nat} {v : Value} {xs : List Value} (h : w.ownsRow base t s v n xs) (hk : ∀ g, v.ownBlock = some g → w'.heap[g]? = w.heap[g]?) : w'.ownsRow base t s v n xs := by
  obtain ⟨h1, h2⟩ := h
  refine ⟨h1, ?_⟩
  rcases h2 with h2 | ⟨g, cap, cur, rfl, hB, hg, hr⟩
  · exact .inl h2
  · exact .inr ⟨g, cap, cur, rfl, hB, by rw [hk g rfl]; exact hg, hr⟩
theorem VL_of_block {w w' : World} {p : Option Addr} {xs : List Value} (h : VL w p xs) (hs : w.heap.size ≤ w'.heap.size) (hk : ∀ b off, xs ≠ [] → p = some ⟨b, off, none⟩ → w'.heap[b]? = w.heap[b]?) : VL w' p xs := by
  intro hn
  obtain ⟨b, off, rfl, hl, hc⟩ := h hn
  exact ⟨b, off, rfl, Nat.lt_of_lt_of_le hl hs, fun i hi => by rw [World.cell?_of_block (hk b off hn rfl)]; exact hc i hi⟩
theorem Fr.below {Vf : Nat → Value} {w w0 wr : World} {i : Nat} (h : Fr Vf w0 i wr) (hb : Below w.heap.size w w0) (hv : ∀ j, j < i → ∀ g, (Vf j).ownBlock = some g → w.heap.size ≤ g) : Below w.heap.size w wr := by
  obtain ⟨a1, a2, a3, a4, a5⟩ := h
  refine hb.trans ⟨a1, a2, a3, a4, fun k hk => a5 k (Nat.lt_of_lt_of_le hk hb.size) fun j hj e => ?_⟩
  have := hv j hj k e
  omega
/-- The three rows. -/
def three (a b c : Value) : Nat → Value
  | 0 => a
  | 1 => b
  | _ => c
theorem ownBlock_slice {a : Addr} {n c : Nat} : (Value.slice (some a) n c).ownBlock = some a.block := rfl
set_option maxHeartbeats 2000000 in
set_option maxRecDepth 100000 in
theorem queueOwn_small (xs : List Int) (hs : xs.length ≤ 500) (x m : Int) (hm : -9223372036854775808 ≤ m) (hm2 : m ≤ 9223372036854775807) (p : Option Addr) (c : Nat) (hc : xs.length ≤ c) (hp : p = none → c = 0) (w : World) (hB : VL w p (xs.map enI)) :
    Calls Try.prog 4 #[.slice p xs.length c, .int .i64 x, .int .i64 m] w fun e w' => e = .returned (.bool true) ∧ Below w.heap.size w w' := by
  have hn : xs.length ≤ 1000000 := by omega
  have K0 := hide (fun W => qawake_calls W)
  have K1 := hide (fun W (h : VL W p (xs.map enI)) => cloneI_calls xs hn p c W h)
  have K2 := hide (fun W (h : VL W p (xs.map enI)) => pushI_calls xs hn x m p c W h)
  have K4 := hide (fun W (h : VL W p (xs.map enI)) => throughI_calls xs hn x p c W hc h)
  have K11 := hide (fun W (h : VL W p (xs.map enI)) => trim_calls xs hn m hm hm2 p c W hc hp h)
  have S1 := hide (fun (q q' : Option Addr) (d d' : Nat) W (h : VL W q ((pPushL xs x m).map enI)) (h' : VL W q' ((pPushL xs x m).map enI)) => rsame_refl (pPushL xs x m) _ _ rfl rfl (by have := pPushL_le xs x m; omega) q q' d d' W h h')
  have S4 := hide (fun (q q' : Option Addr) (d d' : Nat) W (h : VL W q (xs.map enI)) (h' : VL W q' (xs.map enI)) => rsame_refl xs _ _ rfl rfl hn q q' d d' W h h')
  have NA := hide (show ((pPushL xs x m).map enI).length = (pPushL xs x m).length from List.length_map _)
  have NC := hide (show ((pThr x xs).map enI).length = (pThr x xs).length from List.length_map _)
  have NT := hide (show ((pTrim xs m).map enI).length = (pTrim xs m).length from List.length_map _)
  have NQ := hide (show (xs.map enI).length = xs.length from List.length_map _)
  have lA : (pPushL xs x m).length ≤ 600 := by have := pPushL_le xs x m; omega
  have lC : (pThr x xs).length ≤ 600 := by have := pThr_le xs x; omega
  have lT : (pTrim xs m).length ≤ 600 := by have := pTrim_le xs m; omega
  have iA := hide (show ∀ u ∈ (pPushL xs x m).map enI, ∃ z, u = Value.int .i64 z from fun u hu => by obtain ⟨y, _, rfl⟩ := List.mem_map.1 hu; exact ⟨y, rfl⟩)
  have iC := hide (show ∀ u ∈ (pThr x xs).map enI, ∃ z, u = Value.int .i64 z from fun u hu => by obtain ⟨y, _, rfl⟩ := List.mem_map.1 hu; exact ⟨y, rfl⟩)
  have iT := hide (show ∀ u ∈ (pTrim xs m).map enI, ∃ z, u = Value.int .i64 z from fun u hu => by obtain ⟨y, _, rfl⟩ := List.mem_map.1 hu; exact ⟨y, rfl⟩)
  have VQ0 := hide hB
  have hd5 : decide ((500 : Int) < (xs.length : Int)) = false := decide_eq_false (by omega)
  generalize pPushE xs.length m = E at *
  generalize (pPushL xs x m).length = nA at *
  generalize (pPushL xs x m).map enI = LA at *
  generalize (pThr x xs).length = nC at *
  generalize (pThr x xs).map enI = LC at *
  generalize (pTrim xs m).length = nT at *
  generalize (pTrim xs m).map enI = LT at *
  generalize decide (x ∈ xs) = bX at *
  generalize xs.map enI = L at *
  generalize xs.length = n at *
  simp only [enI] at K2 K4
  clear hB hs hn
  go_enter Try.func4, Try.ntmps4
  go_wp2_with fail
  refine (unhide K0 _).mono ?_
  rintro e w1 ⟨rfl, b1⟩
  have VQ1 := hide ((unhide VQ0).below b1 (Nat.le_refl _))
  have s1 := b1.size
  go_wp2_with fail
  refine (unhide K1 _ (unhide VQ1)).mono ?_
  rintro e w2 ⟨⟨vW, rfl, oW⟩, b2⟩
  have VQ2 := hide ((unhide VQ1).below b2 (Nat.le_refl _))
  have s2 := b2.size
  obtain ⟨pW, cW, rfl, VW2⟩ := VL_of_owns (unhide NQ) oW
  have bb2 := b1.trans (b2.mono b1.size)
  go_wp2_with fail
  refine (unhide K2 _ (unhide VQ2)).mono ?_
  rintro e w3 ⟨⟨vA, rfl, oA⟩, b3⟩
  have VQ3 := hide ((unhide VQ2).below b3 (Nat.le_refl _))
  have s3 := b3.size
  obtain ⟨pA, cA, rfl, VA3⟩ := VL_of_owns (unhide NA) oA
  have bb3 := bb2.trans (b3.mono bb2.size)
  go_wp2_with fail
  refine (unhide K2 _ (unhide VQ3)).mono ?_
  rintro e w4 ⟨⟨vB, rfl, oB⟩, b4⟩
  have VQ4 := hide ((unhide VQ3).below b4 (Nat.le_refl _))
  have s4 := b4.size
  obtain ⟨pB, cB, rfl, VB4⟩ := VL_of_owns (unhide NA) oB
  have bb4 := bb3.trans (b4.mono bb3.size)
  go_wp2_with fail
  refine (unhide K4 _ (unhide VQ4)).mono ?_
  rintro e w5 ⟨⟨vC, rfl, oC⟩, b5⟩
  have VQ5 := hide ((unhide VQ4).below b5 (Nat.le_refl _))
  have s5 := b5.size
  obtain ⟨pC, cC, rfl, VC5⟩ := VL_of_owns (unhide NC) oC
  have bb5 := bb4.trans (b5.mono bb4.size)
  go_wp2_with fail
  refine (unhide K11 _ (unhide VQ5)).mono ?_
  rintro e w6 ⟨⟨vD, rfl, oD⟩, b6⟩
  have VQ6 := hide ((unhide VQ5).below b6 (Nat.le_refl _))
  have s6 := b6.size
  obtain ⟨pD, cD, rfl, VD6⟩ := VL_of_owns (unhide NT) oD
  have bb6 := bb5.trans (b6.mono bb5.size)
  clear K0 K1 K4 K11
  -- what the rows are behind all calls
  have rA := oA.lt
  have rB := oB.lt
  have rC := oC.lt
  have rD := oD.lt
  have rW := oW.lt
  have qA := vowns_base (vowns_below (vowns_below (vowns_below oA b4) b5) b6) (show w.heap.size ≤ w2.heap.size by omega)
  have qC := vowns_base (vowns_below oC b6) (show w.heap.size ≤ w4.heap.size by omega)
  have qD := vowns_base oD (show w.heap.size ≤ w5.heap.size by omega)
  have yW := (((VW2.below b3 (Nat.le_refl _)).below b4 (Nat.le_refl _)).below b5 (Nat.le_refl _)).below b6 (Nat.le_refl _)
  have yB := (VB4.below b5 (Nat.le_refl _)).below b6 (Nat.le_refl _)
  obtain ⟨w0, hw0⟩ : ∃ w0, w6.alloc (.cells #[.slice pA nA cA, .slice pC nC cC, .slice pD nT cD] 22) = w0 := ⟨_, rfl⟩
  have b0 := bb6.alloc bb6.size (.cells #[.slice pA nA cA, .slice pC nC cC, .slice pD nT cD] 22)
  have q0 := al1 w6 (.cells #[.slice pA nA cA, .slice pC nC cC, .slice pD nT cD] 22)
  have qA0 := qA.alloc (.cells #[.slice pA nA cA, .slice pC nC cC, .slice pD nT cD] 22)
  have qC0 := qC.alloc (.cells #[.slice pA nA cA, .slice pC nC cC, .slice pD nT cD] 22)
  have qD0 := qD.alloc (.cells #[.slice pA nA cA, .slice pC nC cC, .slice pD nT cD] 22)
  have bq : Below w6.heap.size w6 (w6.alloc (.cells #[.slice pA nA cA, .slice pC nC cC, .slice pD nT cD] 22)) := (Below.refl _ _).alloc (Nat.le_refl _) _
  have yW0 := yW.below bq (Nat.le_refl _)
  have yB0 := yB.below bq (Nat.le_refl _)
  have yQ0 := (unhide VQ6).below bq (Nat.le_refl _)
  have sz0 : (w6.alloc (.cells #[.slice pA nA cA, .slice pC nC cC, .slice pD nT cD] 22)).heap.size = w6.heap.size + 1 := by simp
  rw [hw0] at b0 q0 qA0 qC0 qD0 yW0 yB0 yQ0 sz0
  obtain ⟨N, hN⟩ : ∃ N, w6.heap.size = N := ⟨_, rfl⟩
  rw [hN] at q0 sz0
  have HW0 := hide hw0
  obtain ⟨Vf, hVf⟩ : ∃ Vf, three (.slice pA nA cA) (.slice pC nC cC) (.slice pD nT cD) = Vf := ⟨_, rfl⟩
  have v0 : Vf 0 = .slice pA nA cA := by rw [← hVf]; rfl
  have v1 : Vf 1 = .slice pC nC cC := by rw [← hVf]; rfl
  have v2 : Vf 2 = .slice pD nT cD := by rw [← hVf]; rfl
  have hrange : ∀ j, j < 3 → ∀ g, (Vf j).ownBlock = some g → w2.heap.size ≤ g ∧ (g < w3.heap.size ∨ w4.heap.size ≤ g) ∧ g < N := by
    intro j hj g hg
    match j, hj with
    | 0, _ => rw [v0] at hg; have := rA g hg; omega
    | 1, _ => rw [v1] at hg; have := rC g hg; omega
    | 2, _ => rw [v2] at hg; have := rD g hg; omega
  have hdist : ∀ i j, i < 3 → j < i → ∀ g, (Vf i).ownBlock = some g → (Vf j).ownBlock ≠ some g := by
    intro i j hi hj g hg hg'
    match i, j, hi, hj with
    | 1, 0, _, _ => rw [v1] at hg; rw [v0] at hg'; have := rA g hg'; have := rC g hg; omega
    | 2, 0, _, _ => rw [v2] at hg; rw [v0] at hg'; have := rA g hg'; have := rD g hg; omega
    | 2, 1, _, _ => rw [v2] at hg; rw [v1] at hg'; have := rC g hg'; have := rD g hg; omega
  have hown : ∀ i, i < 3 → ∃ (pi : Option Addr) (ni ci : Nat) (Li : List Value), Vf i = .slice pi ni ci ∧ ni ≤ 600 ∧ (∀ u ∈ Li, ∃ z, u = Value.int .i64 z) ∧ w0.ownsRow w.heap.size 3 1 (.slice pi ni ci) ni Li := by
    intro i hi
    match i, hi with
    | 0, _ => exact ⟨_, _, _, _, v0, lA, unhide iA, qA0⟩
    | 1, _ => exact ⟨_, _, _, _, v1, lC, unhide iC, qC0⟩
    | 2, _ => exact ⟨_, _, _, _, v2, lT, unhide iT, qD0⟩
  have hcell : ∀ i, i < 3 → w0.cell? ⟨N, i, none⟩ = some (Vf i) := by
    intro i hi
    rw [cell_of_row _ _ _ _ _ _ q0]
    match i, hi with
    | 0, _ => rw [v0]; rfl
    | 1, _ => rw [v1]; rfl
    | 2, _ => rw [v2]; rfl
  have hQb : ∀ wr, Fr Vf w0 3 wr → VL wr p L := fun wr hf => VL_of_block yQ0 hf.2.2.2.1 fun b off hne e => by
    obtain ⟨b', off', e', hl, _⟩ := (unhide VQ0) hne
    rw [e] at e'; cases e'
    exact hf.2.2.2.2 b (by omega) fun j hj hg => by have := hrange j hj b hg; omega
  have hWb : ∀ wr, Fr Vf w0 3 wr → VL wr pW L := fun wr hf => VL_of_block yW0 hf.2.2.2.1 fun b off hne e => by
    subst e
    have := rW b rfl
    exact hf.2.2.2.2 b (by omega) fun j hj hg => by have := hrange j hj b hg; omega
  have hBb : ∀ wr, Fr Vf w0 3 wr → VL wr pB LA := fun wr hf => VL_of_block yB0 hf.2.2.2.1 fun b off hne e => by
    subst e
    have := rB b rfl
    exact hf.2.2.2.2 b (by omega) fun j hj hg => by have := hrange j hj b hg; omega
  have hbel : ∀ wr, Fr Vf w0 3 wr → Below w.heap.size w wr := fun wr hf => hf.below b0 fun j hj g hg => by have := hrange j hj g hg; omega
  have hbel2 : ∀ i, i ≤ 3 → ∀ wr, Fr Vf w0 i wr → w.heap.size ≤ wr.heap.size := fun i _ wr hf => by have := hf.2.2.2.1; omega
  have HQb := hide hQb
  have HWb := hide hWb
  have HBb := hide hBb
  have Hbel := hide hbel
  have Hbel2 := hide hbel2
  have Hown := hide hown
  have Hcell := hide hcell
  have Hdist := hide hdist
  have Hrange := hide hrange
  have HN0 := hide (show N < w0.heap.size by omega)
  have VQ6' := VQ6
  have K2' := K2
  clear hQb hWb hBb hbel hbel2 hown hcell hdist hrange rA rB rC rD rW qA qC qD yW yB b0 q0 qA0 qC0 qD0 bq yW0 yB0 yQ0 sz0 oA oB oC oD oW VW2 VA3 VB4 VC5 VD6 v0 v1 v2 hVf hw0 VQ1 VQ2 VQ3 VQ4 VQ5 s1 s2 s3 s4 s5 s6 b1 b2 b3 b4 b5 b6 bb2 bb3 bb4 bb5 bb6
  go_wp2
  rw [unhide HW0]
  go_loopw [56] (fun i wr => ∃ j : Nat, j ≤ 3 ∧ i = .int .i64 (j : Int) ∧ Fr Vf w0 j wr) (fun i _ => 3 - (intOf i).toNat)
  case atStart => exact ⟨0, by omega, rfl, Fr.zero _ _⟩
  case round =>
    obtain ⟨j, hj, rfl, hfr⟩ := hrel
    by_cases hlt : j < 3
    · have hd : decide (j < 3) = true := by simpa using hlt
      have bk : (j : Int) < 3 := by omega
      obtain ⟨pi, ni, ci, Li, e1, hni, hint, hown⟩ := unhide Hown j hlt
      have hN0 : wr.heap[N]? = w0.heap[N]? := hfr.2.2.2.2 N (unhide HN0) fun i hi hg => by have := unhide Hrange i (by omega) N hg; omega
      have hc := unhide Hcell j hlt
      rw [e1, ← World.cell?_of_block (a := ⟨N, j, none⟩) hN0] at hc
      have ho : wr.ownsRow w.heap.size 3 1 (.slice pi ni ci) ni Li := owns_of_block hown fun g hg => by
        rw [← e1] at hg
        exact hfr.2.2.2.2 g (by have := unhide Hrange j hlt g hg; have := unhide HN0; omega) fun i hi hg' => unhide Hdist j i hlt hi g hg hg'
      have E1 := hide e1
      have HF := hide hfr
      have hsz := unhide Hbel2 j hj wr hfr
      have HI := hide hint
      have VS := hide (show VL (wr.alloc (.cells #[.int .i64 7, .int .i64 7, .int .i64 7] 3)) (some ⟨wr.heap.size, 0, none⟩) [.int .i64 7, .int .i64 7, .int .i64 7] from fun _ => ⟨wr.heap.size, 0, rfl, by simp, fun i hi => by
        rw [Nat.zero_add, cell_of_row _ _ _ _ _ _ (al1 wr (.cells #[.int .i64 7, .int .i64 7, .int .i64 7] 3))]
        match i, hi with
        | 0, _ => rfl
        | 1, _ => rfl
        | 2, _ => rfl⟩)
      clear hown hN0 hint hfr e1
      go_wp2_with (at_builtin; (refine wpList_append_two _ rfl 22 3 (.tmp 60) (.tmp 61) rfl Try.underlying22 infoI (by decide) w.heap.size (.slice pi ni ci) ni Li rfl (ho.alloc _) (by rw [World.size_alloc]; omega) [.int .i64 7, .int .i64 7, .int .i64 7] 3 rfl (by decide) (fun u hu => by simp at hu; exact .inl ⟨7, hu⟩) ⟨wr.heap.size, 0, none⟩ 3 (unhide VS) rfl (by omega) ?_); intro g cap cur w' hg hbg hcap hcs htk hgr hor)
      have hLi : Li.length = ni := by simpa using ho.1
      have hint2 := hide (show ∀ k, k < ni + 3 → ∃ z, cur[k]? = some (Value.int .i64 z) from fun k hk => by
        have h1 : (cur.toList.take (ni + 3))[k]? = (Li ++ [Value.int .i64 7, .int .i64 7, .int .i64 7])[k]? := by rw [htk]
        rw [List.getElem?_take, if_pos hk] at h1
        have hlen : k < (Li ++ [Value.int .i64 7, .int .i64 7, .int .i64 7]).length := by simp; omega
        rw [List.getElem?_eq_getElem hlen] at h1
        have hmem := List.getElem_mem hlen
        obtain ⟨z, hz⟩ : ∃ z, (Li ++ [Value.int .i64 7, .int .i64 7, .int .i64 7])[k] = Value.int .i64 z := by
          rcases List.mem_append.1 hmem with hm' | hm'
          · exact unhide HI _ hm'
          · simp at hm'; exact ⟨7, hm'⟩
        exact ⟨z, by rw [← hz]; simpa using h1⟩)
      rw [← unhide E1] at hgr hor
      have Hgr := hide hgr
      have Hor := hide hor
      have hT3 : ni + 3 ≤ 700 := by omega
      generalize hTT : ni + 3 = T at *
      rw [show (ni : Int) + 3 = (T : Int) by omega]
      clear htk hgr hor ho hc VS HI hLi hTT
      go_loopw [65] (fun i wi => ∃ k : Nat, k ≤ T ∧ i = .int .i64 (k : Int) ∧ In1 g w' wi ∧ ∃ cu, wi.heap[g]? = some (.cells cu 3 (0, 0)) ∧ cu.size = cap ∧ Hid (∀ k, k < T → ∃ z, cu[k]? = some (Value.int .i64 z))) (fun i _ => T - (intOf i).toNat)
      case atStart => exact ⟨0, by omega, rfl, In1.refl _ _, cur, hg, hcs, hint2⟩
      case round =>
        obtain ⟨k, hk, rfl, hin, cu, hgu, hcu, hzu⟩ := hrel
        clear hg hcs hint2
        by_cases hkt : k < T
        · have hd2 : decide (k < T) = true := by simpa using hkt
          have bk2 : (k : Int) < (T : Int) := by omega
          obtain ⟨z, hz⟩ := unhide hzu k hkt
          have c0 := cell_of_row _ _ k _ _ _ hgu
          rw [hz] at c0
          have f0 := frozen_of_row _ g k _ _ hgu
          have HG := hide hgu
          have HC := hide hcu
          have HIN := hide hin
          clear hgu hz hcu hin
          go_wp2
          go_roundw
          case rel =>
            refine ⟨k + 1, by omega, by go_num, (unhide HIN).set k _, _, heap_setCell_same _ g k _ _ _ (unhide HG), by simpa using unhide HC, hide fun i hi => ?_⟩
            rw [Array.getElem?_setIfInBounds]
            by_cases e : k = i
            · subst e
              rw [if_pos rfl, if_pos (by have := unhide HC; omega)]
              exact ⟨_, rfl⟩
            · rw [if_neg e]; exact unhide hzu i hi
          case measure => simp [intOf]; omega
        · have hd2 : decide (k < T) = false := by simpa using hkt
          have HIN := hide hin
          clear hgu hin hcu hzu
          go_wp2
          go_roundw
          case rel => exact ⟨j + 1, by omega, by go_num, Fr.next (unhide HF) (unhide Hgr) (unhide Hor) (unhide HIN)⟩
          case measure => simp [intOf]; omega
    · have hj3 : j = 3 := by omega
      have hd : decide (j < 3) = false := by simpa using hlt
      have HF := hide (show Fr Vf w0 3 wr by rw [← hj3]; exact hfr)
      have BB := hide (unhide Hbel wr (unhide HF))
      have y0 := hide (unhide HQb wr (unhide HF))
      have yW := hide (unhide HWb wr (unhide HF))
      have yB := hide (unhide HBb wr (unhide HF))
      clear hfr hj3
      go_wp2_with fail
      refine (unhide K2 _ (unhide y0)).mono ?_
      rintro e z1 ⟨⟨v, rfl, oo⟩, d1⟩
      obtain ⟨pz, cz, rfl, Vz⟩ := VL_of_owns (unhide NA) oo
      have y1 := hide ((unhide y0).below d1 (Nat.le_refl _))
      have yW1 := hide ((unhide yW).below d1 (Nat.le_refl _))
      have yB1 := hide ((unhide yB).below d1 (Nat.le_refl _))
      have Vz1 := hide Vz
      have dd1 := (unhide BB).trans (d1.mono (unhide BB).size)
      clear oo Vz y0 yW yB d1
      go_wp2_with fail
      refine (unhide S4 _ _ _ _ _ (unhide y1) (unhide yW1)).mono ?_
      rintro e z2 ⟨rfl, d2⟩
      have yB2 := hide ((unhide yB1).below d2 (Nat.le_refl _))
      have Vz2 := hide ((unhide Vz1).below d2 (Nat.le_refl _))
      have dd2 := dd1.trans (d2.mono dd1.size)
      clear y1 yW1 yB1 Vz1 d2 dd1
      go_wp2_with fail
      refine (unhide S1 _ _ _ _ _ (unhide yB2) (unhide Vz2)).mono ?_
      rintro e z3 ⟨rfl, d3⟩
      have dd3 := dd2.trans (d3.mono dd2.size)
      clear d3 dd2
      go_wp2
      go_ret
      exact ⟨rfl, dd3⟩
set_option maxHeartbeats 400000 in
set_option maxRecDepth 100000 in
theorem queueOwn_walk (xs : List Int) (x m : Int) (hm : -9223372036854775808 ≤ m) (hm2 : m ≤ 9223372036854775807) (p : Option Addr) (c : Nat) (hc : xs.length ≤ c) (hp : p = none → c = 0) (w : World) (hB : VL w p (xs.map enI)) :
    Calls Try.prog 4 #[.slice p xs.length c, .int .i64 x, .int .i64 m] w fun e w' => e = .returned (.bool true) ∧ Below w.heap.size w w' := by
  by_cases hs : xs.length ≤ 500
  · exact queueOwn_small xs hs x m hm hm2 p c hc hp w hB
  · have hd5 : decide ((500 : Int) < (xs.length : Int)) = true := decide_eq_true (by omega)
    have K0 := hide (fun W => qawake_calls W)
    generalize xs.length = n at *
    clear hB hs hc hp
    go_enter Try.func4, Try.ntmps4
    go_wp2_with fail
    refine (unhide K0 _).mono ?_
    rintro e w1 ⟨rfl, b1⟩
    go_wp2
    go_ret
    exact ⟨rfl, b1⟩
end Go.Proofs.Ytljocohbdghpaaa
