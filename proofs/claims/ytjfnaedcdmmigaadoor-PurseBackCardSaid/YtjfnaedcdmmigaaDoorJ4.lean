/-
  slices.Delete OF ONE HOLDING, in a row of the caller's own.
-/
/-
  ROWS OF STRUCTS: copy; what an Insert leaves.
-/
/-
  slices.Insert AT HOLDINGS.
-/
/-
  SOMEBODY HOLDS SO MUCH.
-/
/-
  rightHoldings.
-/
/-
  A WHOLE ROW LOADED WHERE A GUARD LETS IT. Over whatever program.
-/
/-
  purse.Right.
-/
/-
  THE ORDER OF NAMES, TOKENS, HOLDINGS IS ONE: swapped, zero, through.
-/
import Derived.Test.YtjfnaedcdmmigaaDoorJ3
import Derived.Deep.RegionLaw
import Derived.Laws.IdiomCopy
import Derived.Shelf.Spec.SlicesInsert
import Derived.Lib.AppendZerosOnto
import Derived.Laws.NewBlocks
import Derived.Test.YtjfnaedcdmmigaaDoorJ0
namespace Go.Proofs.YtjfnaedcdmmigaaDoor
open Go Go.RowKit
set_option linter.unusedSimpArgs false
set_option linter.unusedVariables false

theorem zeroCells_one (z : Array Value) : Builtin.zeroCells z 1 = z := by
  apply Array.ext
  · simp [Builtin.zeroCells]
  · intro i h1 h2
    simp [Builtin.zeroCells, Nat.mod_eq_of_lt h2, h2]
/-- clear OF A SLICE OF ONE STRUCT. -/
theorem run_clear_one {P : Program} (w : World) (t e ty : TypeId) (z : Value) (ht : P.underlying t = some (.slice e)) (hv : ∀ w, (zeroValue e).run P w = .ok z w) (cs : List Value) (hz : z.cells.toList = cs) (h1 : ∀ v ∈ cs, v.oneCell' = true) (b o c : Nat)
    (hc : ∀ j, j < cs.length → (w.cell? ⟨b, o + j, none⟩).isSome = true) (hf : ∀ j, j < cs.length → w.frozen? ⟨b, o + j, none⟩ = false) :
    (Builtin.clear_ #[t] ty #[.slice (some ⟨b, o, none⟩) 1 c]).run P w = .ok (.tuple #[]) (w.setCells b o cs) := by
  have hst := run_storeCells_cells (P := P) b o cs 0 w (by simpa using hc) (by simpa using hf) h1
  simp only [Nat.add_zero] at hst
  simp [Builtin.clear_, run_underlying ht, hv, zeroCells_one, hz, hst]
def rowPut (C : Array Value) (o : Nat) (vs : List Value) : Array Value := (C.toList.take o ++ vs ++ C.toList.drop (o + vs.length)).toArray
theorem rowPut_size (C : Array Value) (o : Nat) (vs : List Value) (h : o + vs.length ≤ C.size) : (rowPut C o vs).size = C.size := by
  unfold rowPut; simp; omega
theorem cell_in_row {w : World} {g j : Nat} {t : TypeId} {C : Array Value} (h : w.heap[g]? = some (.cells C t (0, 0))) (hj : j < C.size) : (w.cell? ⟨g, j, none⟩).isSome = true := by
  rw [cell_of_row _ _ _ _ _ _ h, Array.getElem?_eq_getElem hj]; rfl
theorem frozen_in_row {w : World} {g j : Nat} {t : TypeId} {C : Array Value} (h : w.heap[g]? = some (.cells C t (0, 0))) : w.frozen? ⟨g, j, none⟩ = false := frozen_of_row _ _ _ _ _ h
theorem infoH0 : ∃ i, Tryd.prog.info? 75 = some i ∧ i.size = 4 := by
  have h : (Tryd.prog.info? 75).map (·.size) = some 4 := by kernel_rfl
  cases hq : Tryd.prog.info? 75 with
  | none => rw [hq] at h; cases h
  | some i => rw [hq] at h; exact ⟨i, rfl, by simpa using h⟩
theorem zeroH : ∀ w, (zeroValue 75).run Tryd.prog w = .ok (.agg #[.int .u32 0, .string ⟨#[]⟩, .string ⟨#[]⟩, .int .u64 0]) w := Tryd.zeroValue75
/-- What a Delete of one element leaves of a row. -/
theorem del_row (C : Array Value) (L Z : List Value) (k n j cap : Nat) (hk : C.size = cap * k) (hn : n ≤ cap) (hj : j < n) (hL : C.toList.take (n * k) = L) (hZ : Z.length = k) :
    ((rowPut (rowPut C (j * k) (L.drop ((j + 1) * k))) ((n - 1) * k) Z).toList.take ((n - 1) * k)) = L.take (j * k) ++ L.drop ((j + 1) * k) ∧ (rowPut (rowPut C (j * k) (L.drop ((j + 1) * k))) ((n - 1) * k) Z).size = cap * k := by
  have hl : L.length = n * k := by
    rw [← hL, List.length_take, Array.length_toList, hk]
    exact Nat.min_eq_left (Nat.mul_le_mul_right k hn)
  have m1 : (j + 1) * k ≤ n * k := Nat.mul_le_mul_right k hj
  have m2 : (n - 1) * k + k = n * k := by rw [← Nat.succ_mul, show (n - 1).succ = n by omega]
  have m3 : (j + 1) * k = j * k + k := Nat.succ_mul j k
  have m4 : n * k ≤ cap * k := Nat.mul_le_mul_right k hn
  have hd : (L.drop ((j + 1) * k)).length = n * k - (j + 1) * k := by rw [List.length_drop, hl]
  have s1 : (rowPut C (j * k) (L.drop ((j + 1) * k))).size = cap * k := by rw [rowPut_size _ _ _ (by rw [hd, hk]; omega), hk]
  refine ⟨?_, by rw [rowPut_size _ _ _ (by rw [s1, hZ]; omega), s1]⟩
  have hc : C.toList.length = cap * k := by rw [Array.length_toList, hk]
  have e1 : (rowPut C (j * k) (L.drop ((j + 1) * k))).toList = C.toList.take (j * k) ++ L.drop ((j + 1) * k) ++ C.toList.drop (j * k + (L.drop ((j + 1) * k)).length) := rfl
  have e2 : (C.toList.take (j * k) ++ L.drop ((j + 1) * k)).length = (n - 1) * k := by
    rw [List.length_append, hd, List.length_take, hc]; omega
  have e3 : (rowPut C (j * k) (L.drop ((j + 1) * k))).toList.take ((n - 1) * k) = C.toList.take (j * k) ++ L.drop ((j + 1) * k) := by
    rw [e1, ← e2, List.take_left]
  have e4 : (rowPut (rowPut C (j * k) (L.drop ((j + 1) * k))) ((n - 1) * k) Z).toList = (rowPut C (j * k) (L.drop ((j + 1) * k))).toList.take ((n - 1) * k) ++ Z ++ (rowPut C (j * k) (L.drop ((j + 1) * k))).toList.drop ((n - 1) * k + Z.length) := rfl
  rw [e4, e3, List.append_assoc, ← e2, List.take_left]
  congr 1
  rw [← hL, List.take_take, Nat.min_eq_left (by omega)]
theorem flat_erase {α : Type} {enc : α → List Value} {k : Nat} (he : ∀ x, (enc x).length = k) : ∀ (xs : List α) (j : Nat), j < xs.length → (xs.eraseIdx j).flatMap enc = (xs.flatMap enc).take (j * k) ++ (xs.flatMap enc).drop ((j + 1) * k)
  | [], j, h => by simp at h
  | x :: xs, 0, _ => by
    simp only [List.eraseIdx_cons_zero, List.flatMap_cons, Nat.zero_mul, List.take_zero, List.nil_append, Nat.zero_add, Nat.one_mul]
    rw [List.drop_left' (he x)]
  | x :: xs, j + 1, h => by
    have ih := flat_erase he xs j (by simpa using h)
    have hx := he x
    simp only [List.eraseIdx_cons_succ, List.flatMap_cons]
    have t1 : (enc x).take ((j + 1) * k) = enc x := List.take_of_length_le (by rw [hx, Nat.succ_mul]; omega)
    have t2 : (enc x).drop ((j + 1 + 1) * k) = [] := List.drop_of_length_le (by rw [hx, Nat.succ_mul]; omega)
    rw [ih, List.take_append, List.drop_append, hx, t1, t2, show (j + 1) * k - k = j * k by rw [Nat.succ_mul]; omega, show (j + 1 + 1) * k - k = (j + 1) * k by rw [Nat.succ_mul (j + 1)]; omega]
    simp
set_option maxHeartbeats 4000000 in
set_option maxRecDepth 1000000 in
theorem delH_calls (xs : List Hol) (hn : xs.length ≤ 1000) (j : Nat) (hj : j < xs.length) (v : Value) (B : Nat) (w : World) (hown : w.ownsRow B 75 4 v xs.length (xs.flatMap holC)) :
    Calls Tryd.prog 81 #[v, .int .i64 (j : Int), .int .i64 ((j : Int) + 1)] w fun e w' => (∃ v', e = .returned v' ∧ w'.ownsRow B 75 4 v' (xs.eraseIdx j).length ((xs.eraseIdx j).flatMap holC)) ∧ (∀ k, some k ≠ v.ownBlock → w'.heap[k]? = w.heap[k]?) ∧ w'.heap.size = w.heap.size ∧ Below B w w' := by
  obtain ⟨hlL, hcase⟩ := hown
  rcases hcase with ⟨_, h0⟩ | ⟨g, cap, cur, rfl, hBg, hg, hnc, hcm, hcs, htk⟩
  · omega
  obtain ⟨i0, hi0, hz1⟩ := infoH0
  obtain ⟨n, hnn⟩ : ∃ n, xs.length = n := ⟨_, rfl⟩
  have hel : (xs.eraseIdx j).length = n - 1 := by rw [List.length_eraseIdx, if_pos hj, hnn]
  rw [hel, flat_erase holC_len xs j hj]
  have hO := flat_one holC_one xs
  rw [hnn] at hn hj hlL hnc htk ⊢
  generalize xs.flatMap holC = L at *
  clear hel
  have D := del_row cur L [.int .u32 0, .string ⟨#[]⟩, .string ⟨#[]⟩, .int .u64 0] 4 n j cap hcs hnc hj htk rfl
  obtain ⟨news, hnews⟩ : ∃ news, L.drop ((j + 1) * 4) = news := ⟨_, rfl⟩
  rw [hnews] at D ⊢
  have hlen : news.length = (n - (j + 1)) * 4 := by rw [← hnews, List.length_drop, hlL]; omega
  have hgd : w.drew.heap[g]? = some (.cells cur 75 (0, 0)) := hg
  have hszc : j * 4 + news.length ≤ cur.size := by omega
  obtain ⟨r1, o1, z1, u1⟩ := setCells_heap g 75 news (j * 4) cur w.drew hgd hszc
  have e1 : (cur.toList.take (j * 4) ++ news ++ cur.toList.drop (j * 4 + news.length)).toArray = rowPut cur (j * 4) news := rfl
  rw [e1] at r1
  have hs1 : (rowPut cur (j * 4) news).size = cap * 4 := by rw [rowPut_size _ _ _ hszc, hcs]
  obtain ⟨r2, o2, z2, u2⟩ := setCells_heap g 75 [.int .u32 0, .string ⟨#[]⟩, .string ⟨#[]⟩, .int .u64 0] ((n - 1) * 4) (rowPut cur (j * 4) news) (w.drew.setCells g (j * 4) news) r1 (by rw [hs1]; simp; omega)
  have e2 : ((rowPut cur (j * 4) news).toList.take ((n - 1) * 4) ++ [Value.int .u32 0, .string ⟨#[]⟩, .string ⟨#[]⟩, .int .u64 0] ++ (rowPut cur (j * 4) news).toList.drop ((n - 1) * 4 + [Value.int .u32 0, .string ⟨#[]⟩, .string ⟨#[]⟩, .int .u64 0].length)).toArray = rowPut (rowPut cur (j * 4) news) ((n - 1) * 4) [.int .u32 0, .string ⟨#[]⟩, .string ⟨#[]⟩, .int .u64 0] := rfl
  rw [e2] at r2
  obtain ⟨A, hA, hsrc⟩ : ∃ A : Addr, (if cap = j + 1 then some (⟨g, 0, none⟩ : Addr) else some ⟨g, (j + 1) * 4, none⟩) = some A ∧ Hid (∀ t u, news[t]? = some u → w.drew.cell? (A.add t) = some u) := by
    by_cases h : cap = j + 1
    · refine ⟨⟨g, 0, none⟩, by simp [h], fun t u hu => ?_⟩
      have h0 : news.length = 0 := by rw [hlen]; omega
      rw [List.length_eq_zero_iff.1 h0] at hu
      simp at hu
    · refine ⟨⟨g, (j + 1) * 4, none⟩, by simp [h], fun t u hu => ?_⟩
      have ht : t < (n - (j + 1)) * 4 := by
        have := (List.getElem?_eq_some_iff.1 hu).1
        rwa [hlen] at this
      rw [Addr.add_lit, cell_of_row _ _ _ _ _ _ hgd]
      have h1 : (cur.toList.take (n * 4))[(j + 1) * 4 + t]? = L[(j + 1) * 4 + t]? := by rw [htk]
      rw [List.getElem?_take, if_pos (by omega)] at h1
      rw [← hnews, List.getElem?_drop, ← h1] at hu
      simpa using hu
  have s1 : Hid (news.length = (n - (j + 1)) * 4) := hide hlen
  have s2 : Hid (∀ u ∈ news, u.oneCell' = true) := hide fun u hu => hO u (by rw [← hnews] at hu; exact List.mem_of_mem_drop hu)
  have s3 : Hid (∀ t, t < news.length → (w.drew.cell? ⟨g, 0 + j * 4 + t, none⟩).isSome = true ∧ w.drew.frozen? ⟨g, 0 + j * 4 + t, none⟩ = false) := hide fun t ht => by
    rw [Nat.zero_add]
    exact ⟨cell_in_row hgd (by omega), frozen_in_row hgd⟩
  obtain ⟨W1, hW1⟩ : ∃ W1, w.drew.setCells g (j * 4) news = W1 := ⟨_, rfl⟩
  rw [hW1] at r1 o1 z1 u1 r2 o2 z2 u2
  have hcl : ∀ ty, (Builtin.clear_ #[25] ty #[.slice (some ⟨g, (n - 1) * 4, none⟩) 1 (cap - (n - 1))]).run Tryd.prog W1 = .ok (.tuple #[]) (W1.setCells g ((n - 1) * 4) [.int .u32 0, .string ⟨#[]⟩, .string ⟨#[]⟩, .int .u64 0]) := fun ty =>
    run_clear_one W1 _ _ ty _ Tryd.underlying25 zeroH [.int .u32 0, .string ⟨#[]⟩, .string ⟨#[]⟩, .int .u64 0] rfl (by intro v hv; simp at hv; rcases hv with rfl | rfl | rfl | rfl <;> rfl) g ((n - 1) * 4) _ (fun t ht => cell_in_row r1 (by rw [hs1]; simp at ht; omega)) (fun t ht => frozen_in_row r1)
  obtain ⟨W2, hW2⟩ : ∃ W2, W1.setCells g ((n - 1) * 4) [.int .u32 0, .string ⟨#[]⟩, .string ⟨#[]⟩, .int .u64 0] = W2 := ⟨_, rfl⟩
  rw [hW2] at r2 o2 z2 u2 hcl
  have hW : Hid (w.drew.setCells g (0 + j * 4) news = W1) := hide (by rw [Nat.zero_add]; exact hW1)
  have FIN : Hid ((∃ v', (Ending.returned (.slice (some ⟨g, 0, none⟩) (n - 1) cap) : Ending) = .returned v' ∧ W2.ownsRow B 75 4 v' (n - 1) (L.take (j * 4) ++ news)) ∧ (∀ k, some k ≠ (Value.slice (some ⟨g, 0, none⟩) n cap).ownBlock → W2.heap[k]? = w.heap[k]?) ∧ W2.heap.size = w.heap.size ∧ Below B w W2) := hide (by
    refine ⟨⟨_, rfl, by rw [List.length_append, hlen, List.length_take, hlL]; omega, .inr ⟨g, cap, _, rfl, hBg, r2, by omega, hcm, D.2, D.1⟩⟩, fun k hk => ?_, z2.trans z1, ?_⟩
    · have hne : k ≠ g := fun e => hk (by rw [e]; rfl)
      exact (o2 k hne).trans (o1 k hne)
    · exact (show Below B w w.drew from ⟨rfl, rfl, rfl, Nat.le_refl _, fun _ _ => rfl⟩).trans ((u1 B hBg).trans (u2 B hBg)))
  have hic : j ≤ cap := by omega
  have hjc : j + 1 ≤ cap := by omega
  have hin : (j : Int) ≤ (n : Int) := by omega
  have hin2 : (j : Int) + 1 ≤ (n : Int) := by omega
  have hne : ¬ (j : Int) = (j : Int) + 1 := by omega
  have ht1 : ((j : Int) + 1).toNat = j + 1 := by omega
  have hb1 : (0 : Int) ≤ (j : Int) + 1 := by omega
  have hjn : j + (n - (j + 1)) = n - 1 := by omega
  have hcl2 : ∀ ty, (Builtin.clear_ #[25] ty #[.slice (some ⟨g, (j + (n - (j + 1))) * 4, none⟩) (n - (j + (n - (j + 1)))) (cap - (j + (n - (j + 1))))]).run Tryd.prog W1 = .ok (.tuple #[]) W2 := fun ty => by
    rw [hjn, show n - (n - 1) = 1 by omega]; exact hcl ty
  have HJN := hide hjn
  clear hcl hjn
  have mixed := mixed
  clear hW1 hW2 hO r1 o1 z1 u1 r2 o2 z2 u2 D hnews hg hgd hszc e1 e2 hlL htk hcs hs1 hlen hBg
  go_enter Tryd.func81, Tryd.ntmps81
  go_wp2_with fail
  go_region_law_o (refine step_append_room rfl (.tmp 22) (.tmp 25) 25 rfl 75 i0 4 Tryd.underlying25 hi0 hz1 g 0 j cap (by simp [Act.eval, Act.put]) A (n - (j + 1)) (cap - (j + 1)) news (by simp [Act.eval, Act.put]) s1.out hsrc.out s2.out (by omega) s3.out ?_; rw [hW.out])
  go_wp2
  go_ret
  obtain ⟨⟨v', hv, ho⟩, F2⟩ := unhide FIN
  exact ⟨⟨v', (congrArg (fun m => Ending.returned (.slice (some ⟨g, 0, none⟩) m cap)) (unhide HJN)).trans hv, ho⟩, F2⟩
end Go.Proofs.YtjfnaedcdmmigaaDoor

namespace Go.Proofs.YtjfnaedcdmmigaaDoor
open Go Go.RowKit
set_option linter.unusedSimpArgs false
set_option linter.unusedVariables false

theorem run_copy_k {P : Program} (w : World) (dT sT ty elem : TypeId) (s : Nat) (g o dLen dCap : Nat) (a : Addr) (sLen sCap : Nat) (cur : Array Value) (t : TypeId) (cs : List Value) (m : Nat)
    (hu : P.underlying dT = some (.slice elem)) (hs : (P.info? elem).map (·.size) = some s)
    (hg : w.heap[g]? = some (.cells cur t (0, 0))) (hm : Nat.min sLen dLen = m) (hn : cs.length = m * s)
    (hsrc : ∀ j v, cs[j]? = some v → w.cell? (a.add j) = some v) (hfit : o + cs.length ≤ cur.size) (h1 : ∀ v ∈ cs, v.oneCell' = true) :
    (Builtin.copy_ #[dT, sT] ty #[.slice (some ⟨g, o, none⟩) dLen dCap, .slice (some a) sLen sCap]).run P w = .ok (goInt m) (w.setRow g (rowPut cur o cs)) := by
  have hl := run_loadCells_list (P := P) w a cs hsrc
  have hst := run_storeCells_at P g o t cs 0 cur w hg (by simpa using hfit) h1
  cases hq : P.info? elem with
  | none => simp [hq] at hs
  | some i =>
    have hi : i.size = s := by simpa [hq] using hs
    unfold rowPut
    simp [Builtin.copy_, run_underlying hu, Builtin.lenOf, Builtin.firstCells, sizeOf, typeInfo, hq, hi, hm, ← hn, hl, hst]
theorem rowPut_toList (C : Array Value) (o : Nat) (vs : List Value) : (rowPut C o vs).toList = C.toList.take o ++ vs ++ C.toList.drop (o + vs.length) := rfl
/-- Two puts side by side, the left one first. -/
theorem ins_left (C : Array Value) (A X D : List Value) (hC : C.toList.take A.length = A) (hs : A.length + X.length + D.length ≤ C.size) :
    (rowPut (rowPut C A.length X) (A.length + X.length) D).toList.take (A.length + X.length + D.length) = A ++ X ++ D := by
  have e1 : (rowPut C A.length X).toList = A ++ X ++ C.toList.drop (A.length + X.length) := by rw [rowPut_toList, hC]
  rw [rowPut_toList, e1]
  have e2 : (A ++ X ++ C.toList.drop (A.length + X.length)).take (A.length + X.length) = A ++ X := by
    rw [show A.length + X.length = (A ++ X).length by simp, List.take_left]
  rw [e2, show A.length + X.length + D.length = (A ++ X ++ D).length by simp only [List.length_append], List.take_left]
/-- .. the right one first. -/
theorem ins_right (C : Array Value) (A X D : List Value) (hC : C.toList.take A.length = A) (hs : A.length + X.length + D.length ≤ C.size) :
    (rowPut (rowPut C (A.length + X.length) D) A.length X).toList.take (A.length + X.length + D.length) = A ++ X ++ D := by
  have hl : C.toList.length = C.size := rfl
  obtain ⟨Y, hY, hYl⟩ : ∃ Y, C.toList.take (A.length + X.length) = A ++ Y ∧ Y.length = X.length := by
    refine ⟨(C.toList.drop A.length).take X.length, ?_, ?_⟩
    · rw [List.take_add, hC]
    · rw [List.length_take, List.length_drop, hl]; omega
  have e1 : (rowPut C (A.length + X.length) D).toList = A ++ (Y ++ (D ++ C.toList.drop (A.length + X.length + D.length))) := by
    rw [rowPut_toList, hY]; simp only [List.append_assoc]
  rw [rowPut_toList, e1, List.take_left]
  have e2 : (A ++ (Y ++ (D ++ C.toList.drop (A.length + X.length + D.length)))).drop (A.length + X.length) = D ++ C.toList.drop (A.length + X.length + D.length) := by
    rw [← hYl, show A.length + Y.length = (A ++ Y).length by simp, ← List.append_assoc, List.drop_left]
  rw [e2, show A.length + X.length + D.length = (A ++ X ++ D).length by simp only [List.length_append], ← List.append_assoc (A ++ X) D, List.take_left]
theorem flat_insert {α : Type} {enc : α → List Value} {k : Nat} (he : ∀ x, (enc x).length = k) (y : α) : ∀ (xs : List α) (j : Nat), j ≤ xs.length → (xs.insertIdx j y).flatMap enc = (xs.flatMap enc).take (j * k) ++ enc y ++ (xs.flatMap enc).drop (j * k)
  | xs, 0, _ => by simp
  | [], j + 1, h => by simp at h
  | x :: xs, j + 1, h => by
    have ih := flat_insert he y xs j (by simpa using h)
    have hx := he x
    have t1 : (enc x).take ((j + 1) * k) = enc x := List.take_of_length_le (by rw [hx, Nat.succ_mul]; omega)
    have t2 : (enc x).drop ((j + 1) * k) = [] := List.drop_of_length_le (by rw [hx, Nat.succ_mul]; omega)
    simp only [List.insertIdx_succ_cons, List.flatMap_cons]
    rw [ih, List.take_append, List.drop_append, hx, t1, t2, show (j + 1) * k - k = j * k by rw [Nat.succ_mul]; omega]
    simp
theorem shape_row {w : World} {g : Nat} {t : TypeId} {C : Array Value} (h : w.heap[g]? = some (.cells C t (0, 0))) : w.shape? g = some (t, C.size) := by
  unfold World.shape?; rw [h]
theorem zeroCells_size (z : Array Value) (n : Nat) : (Builtin.zeroCells z n).size = n * z.size := by simp [Builtin.zeroCells]
end Go.Proofs.YtjfnaedcdmmigaaDoor

namespace Go.Proofs.YtjfnaedcdmmigaaDoor
open Go Go.RowKit
set_option linter.unusedSimpArgs false
set_option linter.unusedVariables false

theorem insInfoH : ∃ i z, Tryd.prog.info? 75 = some i ∧ i.zero = some z ∧ i.size = 4 ∧ i.bytes = 48 ∧ z.cells.size = 4 := rowInfoV infoH
set_option maxHeartbeats 4000000 in
set_option maxRecDepth 1000000 in
theorem insEndH (n : Nat) (hn : n ≤ 1000) (L X : List Value) (hX : X.length = 4) (h1X : ∀ u ∈ X, u.oneCell' = true) (v : Value) (B h : Nat) (w : World) (hB : B ≤ w.heap.size) (hown : w.ownsRow B 75 4 v n L) (hh : w.heap[h]? = some (.cells X.toArray 75 (0, 0))) :
    Calls Tryd.prog 84 #[v, .int .i64 (n : Int), .slice (some ⟨h, 0, none⟩) 1 1] w fun e w' => (∃ v', e = .returned v' ∧ w'.ownsRow B 75 4 v' (n + 1) (L ++ X)) ∧ (∀ k, k < w.heap.size → some k ≠ v.ownBlock → w'.heap[k]? = w.heap[k]?) ∧ w.heap.size ≤ w'.heap.size ∧ Below B w w' := by
  have hVL : VL w (some ⟨h, 0, none⟩) X := fun _ => ⟨h, 0, rfl, (Array.getElem?_eq_some_iff.1 hh).1, fun i hi => by rw [Nat.zero_add, cell_of_row _ _ _ _ _ _ hh]; simp⟩
  have HV := hide hVL
  have HX1 := hide (show X.length = 1 * 4 by rw [hX])
  have HO := hide h1X
  have hcv : ∃ p c, v = .slice p n c ∧ n ≤ c ∧ c ≤ maxLen ∧ (p = none → n = 0 ∧ c = 0) := by
    rcases hown.2 with ⟨rfl, rfl⟩ | ⟨g, cap, cur, rfl, _, _, h2, h3, _⟩
    · exact ⟨none, 0, rfl, Nat.le_refl _, Nat.zero_le _, fun _ => ⟨rfl, rfl⟩⟩
    · exact ⟨_, cap, rfl, h2, h3, fun h => by cases h⟩
  obtain ⟨p, c, rfl, hnc, hcm, hp⟩ := hcv
  have HW := hide hown
  clear hown hVL hh hX h1X
  go_enter Tryd.func84, Tryd.ntmps84
  cases p with
  | none =>
    obtain ⟨rfl, rfl⟩ := hp rfl
    go_wp2_with (at_builtin; refine wpList_append_e w rfl 25 75 (.tmp 23) (.tmp 24) rfl Tryd.underlying25 (by decide) infoH (by decide) B _ 0 L rfl (unhide HW) hB X 1 (unhide HX1) (unhide HO) ⟨h, 0, none⟩ 1 (unhide HV) rfl (by omega) ?_; intro v' w1 ho hg hb)
    go_ret
    exact ⟨⟨_, rfl, ho⟩, fun k hk hk2 => hg.block k hk (fun e => hk2 e), hg.size, hb⟩
  | some a =>
    obtain ⟨ab, ao, asp⟩ := a
    have hp := ()
    go_wp2_with (at_builtin; refine wpList_append_e w rfl 25 75 (.tmp 23) (.tmp 24) rfl Tryd.underlying25 (by decide) infoH (by decide) B _ n L rfl (unhide HW) hB X 1 (unhide HX1) (unhide HO) ⟨h, 0, none⟩ 1 (unhide HV) rfl (by omega) ?_; intro v' w1 ho hg hb)
    all_goals (go_ret; exact ⟨⟨_, rfl, ho⟩, fun k hk hk2 => hg.block k hk (fun e => hk2 e), hg.size, hb⟩)
set_option maxHeartbeats 4000000 in
set_option maxRecDepth 1000000 in
theorem insRoomH (n : Nat) (hn : n ≤ 1000) (i : Nat) (hi : i < n) (L X : List Value) (hX : X.length = 4) (h1X : ∀ u ∈ X, u.oneCell' = true) (h1L : ∀ u ∈ L, u.oneCell' = true) (g cap : Nat) (cur : Array Value) (B h : Nat) (w : World) (hBg : B ≤ g) (hg : w.heap[g]? = some (.cells cur 75 (0, 0))) (hroom : n + 1 ≤ cap) (hcm : cap ≤ maxLen) (hcs : cur.size = cap * 4) (htk : cur.toList.take (n * 4) = L) (hlL : L.length = n * 4) (hgh : h ≠ g) (hh : w.heap[h]? = some (.cells X.toArray 75 (0, 0))) :
    Calls Tryd.prog 84 #[.slice (some ⟨g, 0, none⟩) n cap, .int .i64 (i : Int), .slice (some ⟨h, 0, none⟩) 1 1] w fun e w' => (∃ v', e = .returned v' ∧ w'.ownsRow B 75 4 v' (n + 1) (L.take (i * 4) ++ X ++ L.drop (i * 4))) ∧ (∀ k, k < w.heap.size → some k ≠ (Value.slice (some ⟨g, 0, none⟩) n cap).ownBlock → w'.heap[k]? = w.heap[k]?) ∧ w.heap.size ≤ w'.heap.size ∧ Below B w w' := by
  have hz2 : ¬ ((i : Int) = (n : Int)) := by omega
  have hcap63 : cap ≤ 9223372036854775807 := by unfold maxLen at hcm; omega
  obtain ⟨i0, z0, hi0, hzz, hz1, hz3, hzc⟩ := insInfoH
  have hsz : (Tryd.prog.info? 75).map (·.size) = some 4 := by rw [hi0, Option.map_some, hz1]
  have hov : ∀ lb cb, (callFunc 104 #[.slice (some ⟨h, 0, none⟩) 1 1, .slice (some ⟨g, (i + 1) * 4, none⟩) lb cb]).run Tryd.prog w = .ok (.value (.bool false)) w := fun lb cb => by
    rw [run_callFunc_extern Tryd.func104 (by kernel_rfl) (by kernel_rfl) (by kernel_rfl) (e := Extern.SlicesOverlaps.overlaps #[25, 25] #[4]) (by kernel_rfl),
      Lib.run_overlaps_apart w 25 4 75 Tryd.underlying25 4 Tryd.sizeOf75 ⟨h, 0, none⟩ ⟨g, (i + 1) * 4, none⟩ 1 1 lb cb hgh _ _ _ _ (shape_row hh) (shape_row hg) (by omega) (frozen_in_row hh) (frozen_in_row hh)]
    rfl
  have hdl : (L.drop (i * 4)).length = (n - i) * 4 := by rw [List.length_drop, hlL]; omega
  have hal : (L.take (i * 4)).length = i * 4 := by rw [List.length_take, hlL]; omega
  have hgd : w.drew.heap[g]? = some (.cells cur 75 (0, 0)) := hg
  have hcL : ∀ j u, (L.drop (i * 4))[j]? = some u → w.drew.cell? ((⟨g, i * 4, none⟩ : Addr).add j) = some u := fun j u hu => by
    rw [Addr.add_lit, cell_of_row _ _ _ _ _ _ hgd]
    have hj := (List.getElem?_eq_some_iff.1 hu).1
    rw [hdl] at hj
    have h1 : (cur.toList.take (n * 4))[i * 4 + j]? = L[i * 4 + j]? := by rw [htk]
    rw [List.getElem?_take, if_pos (by omega)] at h1
    rw [List.getElem?_drop, ← h1] at hu
    simpa using hu
  have hcp1 : ∀ ty, (Builtin.copy_ #[25, 25] ty #[.slice (some ⟨g, (i + 1) * 4, none⟩) (n + 1 - (i + 1)) (cap - (i + 1)), .slice (some ⟨g, i * 4, none⟩) (n + 1 - i) (cap - i)]).run Tryd.prog w.drew = .ok (goInt ((n - i : Nat) : Int)) (w.drew.setRow g (rowPut cur ((i + 1) * 4) (L.drop (i * 4)))) := fun ty =>
    run_copy_k w.drew _ _ ty 75 4 g ((i + 1) * 4) _ _ ⟨g, i * 4, none⟩ _ _ cur _ (L.drop (i * 4)) (n - i) Tryd.underlying25 hsz hgd (by simp only [Nat.min_def]; split <;> omega) hdl hcL (by rw [hdl, hcs]; omega) (fun u hu => h1L u (List.mem_of_mem_drop hu))
  obtain ⟨C1, hC1⟩ : ∃ C, rowPut cur ((i + 1) * 4) (L.drop (i * 4)) = C := ⟨_, rfl⟩
  have hs1 : C1.size = cap * 4 := by rw [← hC1, rowPut_size _ _ _ (by rw [hdl, hcs]; omega), hcs]
  rw [hC1] at hcp1
  obtain ⟨W1, hW1⟩ : ∃ W1, w.drew.setRow g C1 = W1 := ⟨_, rfl⟩
  have r1 : W1.heap[g]? = some (.cells C1 75 (0, 0)) := by rw [← hW1]; exact setRow_heap _ _ _ _ _ _ hgd
  have o1 : ∀ k, k ≠ g → W1.heap[k]? = w.heap[k]? := fun k hk => by rw [← hW1]; exact setRow_other _ _ _ _ hk
  have z1 : W1.heap.size = w.heap.size := by rw [← hW1]; exact setRow_size _ _ _
  have u1 : Below B w W1 := by rw [← hW1]; exact (show Below B w w.drew from ⟨rfl, rfl, rfl, Nat.le_refl _, fun _ _ => rfl⟩).trans (below_setRow (Below.refl _ _) hBg _)
  rw [hW1] at hcp1
  have hcp2 : ∀ ty, (Builtin.copy_ #[25, 25] ty #[.slice (some ⟨g, i * 4, none⟩) (n + 1 - i) (cap - i), .slice (some ⟨h, 0, none⟩) 1 1]).run Tryd.prog W1 = .ok (goInt ((1 : Nat) : Int)) (W1.setRow g (rowPut C1 (i * 4) X)) := fun ty =>
    run_copy_k W1 _ _ ty 75 4 g (i * 4) _ _ ⟨h, 0, none⟩ _ _ C1 _ X 1 Tryd.underlying25 hsz r1 (by simp only [Nat.min_def]; split <;> omega) (by rw [hX]) (fun j u hu => by
      rw [Addr.add_lit, Nat.zero_add, cell_of_row _ _ _ _ _ _ ((o1 h hgh).trans hh)]; simpa using hu) (by rw [hX, hs1]; omega) h1X
  have hrow := ins_right cur (L.take (i * 4)) X (L.drop (i * 4)) (by rw [hal, ← htk, List.take_take, Nat.min_eq_left (by omega)]) (by rw [hal, hX, hdl, hcs]; omega)
  rw [hal, hX, show i * 4 + 4 = (i + 1) * 4 by omega, hC1, hdl, show (i + 1) * 4 + (n - i) * 4 = (n + 1) * 4 by omega] at hrow
  have hs2 : (rowPut C1 (i * 4) X).size = cap * 4 := by rw [rowPut_size _ _ _ (by rw [hX, hs1]; omega), hs1]
  obtain ⟨C2, hC2⟩ : ∃ C, rowPut C1 (i * 4) X = C := ⟨_, rfl⟩
  rw [hC2] at hcp2 hrow hs2
  have FIN : Hid ((∃ v', (Ending.returned (.slice (some ⟨g, 0, none⟩) (n + 1) cap) : Ending) = .returned v' ∧ (W1.setRow g C2).ownsRow B 75 4 v' (n + 1) (L.take (i * 4) ++ X ++ L.drop (i * 4))) ∧ (∀ k, k < w.heap.size → some k ≠ (Value.slice (some ⟨g, 0, none⟩) n cap).ownBlock → (W1.setRow g C2).heap[k]? = w.heap[k]?) ∧ w.heap.size ≤ (W1.setRow g C2).heap.size ∧ Below B w (W1.setRow g C2)) := hide (by
    refine ⟨⟨_, rfl, by rw [List.length_append, List.length_append, hal, hX, hdl]; omega, .inr ⟨g, cap, C2, rfl, hBg, setRow_heap _ _ _ _ _ _ r1, hroom, hcm, hs2, hrow⟩⟩, fun k hk hk2 => ?_, ?_, u1.trans (below_setRow (Below.refl _ _) hBg _)⟩
    · have hne : k ≠ g := fun e => hk2 (by rw [e]; rfl)
      exact (setRow_other _ _ _ _ hne).trans (o1 k hne)
    · rw [setRow_size, z1]; exact Nat.le_refl _)
  obtain ⟨W2, hW2⟩ : ∃ W2, W1.setRow g C2 = W2 := ⟨_, rfl⟩
  rw [hW2] at FIN hcp2
  have hw1 : IntKind.i64.wrap ((i : Int) + 1) = (i : Int) + 1 := by rw [IntKind.wrap_i64]; omega
  have hw2 : IntKind.i64.wrap ((n : Int) + 1) = (n : Int) + 1 := by rw [IntKind.wrap_i64]; omega
  have hb1 : (0 : Int) ≤ (i : Int) + 1 := by omega
  have hb1' : (0 : Int) ≤ (n : Int) + 1 := by omega
  have hin : i ≤ n := by omega
  have hin' : i + 1 ≤ n + 1 := by omega
  have htn : ((i : Int) + 1).toNat = i + 1 := by omega
  have htn' : ((n : Int) + 1).toNat = n + 1 := by omega
  have hb2 : ¬ (cap = i + 1) := by omega
  have hb3 : (i : Int) + 1 ≤ (n : Int) + 1 := by omega
  have hb3' : (i : Int) ≤ (n : Int) + 1 := by omega
  have hb4 : ¬ (cap = i) := by omega
  have hb5 : ¬ ((cap : Int) < (n : Int) + 1) := by omega
  have hb6 : (n : Int) + 1 ≤ (cap : Int) := by omega
  have mixed := mixed
  clear hW1 hW2 r1 o1 z1 u1 hs1 hs2 hrow hC1 hC2 hcL hdl hal hgd hg hh hcs htk hlL h1L h1X hX hzc hz3 hzz hi0 hcm hBg hgh
  go_enter Tryd.func84, Tryd.ntmps84
  go_wp2_with (simp only [hov])
  go_region_law_o (refine step_copy_runI rfl _ _ 25 25 rfl _ _ (by simp [Act.eval, Act.put]) (by simp [Act.eval, Act.put]) (hcp1 _) ?_)
  go_wp2_with (at_builtin; refine wpList_copy_runI _ rfl _ _ 25 25 rfl _ _ rfl rfl (hcp2 _) ?_)
  go_ret
  exact unhide FIN
set_option maxHeartbeats 4000000 in
set_option maxRecDepth 1000000 in
theorem insGrowH (n : Nat) (hn : n ≤ 1000) (i : Nat) (hi : i < n) (L X : List Value) (hX : X.length = 4) (h1X : ∀ u ∈ X, u.oneCell' = true) (h1L : ∀ u ∈ L, u.oneCell' = true) (g cap : Nat) (cur : Array Value) (B h : Nat) (w : World) (hB : B ≤ w.heap.size) (hg : w.heap[g]? = some (.cells cur 75 (0, 0))) (hnc : n ≤ cap) (hroom : cap < n + 1) (hcs : cur.size = cap * 4) (htk : cur.toList.take (n * 4) = L) (hlL : L.length = n * 4) (hh : w.heap[h]? = some (.cells X.toArray 75 (0, 0))) :
    Calls Tryd.prog 84 #[.slice (some ⟨g, 0, none⟩) n cap, .int .i64 (i : Int), .slice (some ⟨h, 0, none⟩) 1 1] w fun e w' => (∃ v', e = .returned v' ∧ w'.ownsRow B 75 4 v' (n + 1) (L.take (i * 4) ++ X ++ L.drop (i * 4))) ∧ (∀ k, k < w.heap.size → some k ≠ (Value.slice (some ⟨g, 0, none⟩) n cap).ownBlock → w'.heap[k]? = w.heap[k]?) ∧ w.heap.size ≤ w'.heap.size ∧ Below B w w' := by
  have hz2 : ¬ ((i : Int) = (n : Int)) := by omega
  have hz3' : (cap : Int) < (n : Int) + 1 := by omega
  obtain ⟨i0, z0, hi0, hzz, hz1, hz3, hzc⟩ := insInfoH
  have hsz : (Tryd.prog.info? 75).map (·.size) = some 4 := by rw [hi0, Option.map_some, hz1]
  have hgw := (Array.getElem?_eq_some_iff.1 hg).1
  have hhw := (Array.getElem?_eq_some_iff.1 hh).1
  have hdl : (L.drop (i * 4)).length = (n - i) * 4 := by rw [List.length_drop, hlL]; omega
  have hal : (L.take (i * 4)).length = i * 4 := by rw [List.length_take, hlL]; omega
  have hgd : w.drew.heap[g]? = some (.cells cur 75 (0, 0)) := hg
  have hcell : ∀ (W : World), W.heap[g]? = some (.cells cur 75 (0, 0)) → ∀ j u, j < n * 4 → L[j]? = some u → W.cell? ⟨g, j, none⟩ = some u := fun W hW j u hj hu => by
    rw [cell_of_row _ _ _ _ _ _ hW]
    have h1 : (cur.toList.take (n * 4))[j]? = L[j]? := by rw [htk]
    rw [List.getElem?_take, if_pos hj] at h1
    rw [← h1] at hu
    simpa using hu
  have hold : (Builtin.firstCells i0.size i (.slice (some ⟨g, 0, none⟩) i cap)).run Tryd.prog w.drew = .ok (L.take (i * 4)).toArray w.drew := by
    rw [hz1]
    exact run_firstCells_some w.drew 4 i ⟨g, 0, none⟩ i cap (L.take (i * 4)) (by rw [hal]) (fun j u hj => by
      rw [Addr.add_lit, Nat.zero_add]
      have hjl := (List.getElem?_eq_some_iff.1 hj).1
      rw [hal] at hjl
      rw [List.getElem?_take, if_pos hjl] at hj
      exact hcell _ hgd j u (by omega) hj)
  have hkk : (n : Int) + 1 - (i : Int) = ((n + 1 - i : Nat) : Int) := by omega
  have hik : i + (n + 1 - i) = n + 1 := by omega
  obtain ⟨G, hG⟩ : ∃ G, grownCap w (n + 1) cap 75 = G := ⟨_, rfl⟩
  have hGn : n + 1 ≤ G := by rw [← hG]; exact grownCap_ge w _ _ _
  have hGm : G ≤ maxLen := by rw [← hG]; exact grownCap_le_maxLen w (n + 1) cap 75 (by unfold maxLen; omega)
  obtain ⟨ROW, hROW⟩ : ∃ R : Array Value, (L.take (i * 4)).toArray ++ Builtin.zeroCells z0.cells (n + 1 - i) ++ Builtin.zeroCells z0.cells (G - (n + 1)) = R := ⟨_, rfl⟩
  have hrz : ∀ ty, (Builtin.append_ #[25, 3] ty #[.slice (some ⟨g, 0, none⟩) i cap, .int .i64 ((n : Int) + 1 - (i : Int))]).run Tryd.prog w = .ok (.slice (some ⟨w.heap.size, 0, none⟩) (n + 1) G) (w.drew.alloc (.cells ROW 75)) := fun ty => by
    have h := Lib.run_append_grow_zeros w 25 3 ty 75 i0 z0 .i64 .i64 Tryd.underlying25 Tryd.underlying3 hi0 hzz (some ⟨g, 0, none⟩) i cap (L.take (i * 4)) hold (n + 1 - i) (by omega) (by omega) (by omega) (by omega) (by rw [hz3]; omega) (by rw [hz3, hik]; exact growslice_fits hroom (by omega))
    rw [hik, hG, hROW] at h
    rw [hkk]
    exact h
  have hRs : ROW.size = G * 4 := by
    rw [← hROW, Array.size_append, Array.size_append, zeroCells_size, zeroCells_size, hzc, List.size_toArray, hal]; omega
  have hRt : ROW.toList.take (i * 4) = L.take (i * 4) := by
    rw [← hROW, Array.toList_append, Array.toList_append, List.append_assoc]
    show ((L.take (i * 4)) ++ _).take (i * 4) = _
    rw [List.take_append_of_le_length (by rw [hal]; exact Nat.le_refl _), List.take_of_length_le (by rw [hal]; exact Nat.le_refl _)]
  obtain ⟨N, hN⟩ : ∃ N, w.heap.size = N := ⟨_, rfl⟩
  obtain ⟨W1, hW1⟩ : ∃ W1, w.drew.alloc (.cells ROW 75) = W1 := ⟨_, rfl⟩
  have r1 : W1.heap[N]? = some (.cells ROW 75 (0, 0)) := by rw [← hW1, ← hN]; exact al1 w.drew _
  have o1 : ∀ k, k < N → W1.heap[k]? = w.heap[k]? := fun k hk => by rw [← hW1]; exact Below.heap_alloc w.drew _ _ (by rw [← hN] at hk; exact hk)
  have z1 : N ≤ W1.heap.size := by rw [← hW1, ← hN, World.size_alloc]; exact Nat.le_succ _
  have u1 : Below B w W1 := by rw [← hW1]; exact (show Below B w w.drew from ⟨rfl, rfl, rfl, Nat.le_refl _, fun _ _ => rfl⟩).alloc hB _
  rw [hW1, hN] at hrz
  rw [hN] at hgw hhw
  have hcpA : ∀ ty, (Builtin.copy_ #[25, 25] ty #[.slice (some ⟨N, i * 4, none⟩) (n + 1 - i) (G - i), .slice (some ⟨h, 0, none⟩) 1 1]).run Tryd.prog W1 = .ok (goInt ((1 : Nat) : Int)) (W1.setRow N (rowPut ROW (i * 4) X)) := fun ty =>
    run_copy_k W1 _ _ ty 75 4 N (i * 4) _ _ ⟨h, 0, none⟩ _ _ ROW _ X 1 Tryd.underlying25 hsz r1 (by simp only [Nat.min_def]; split <;> omega) (by rw [hX]) (fun j u hu => by
      rw [Addr.add_lit, Nat.zero_add, cell_of_row _ _ _ _ _ _ ((o1 h hhw).trans hh)]; simpa using hu) (by rw [hX, hRs]; omega) h1X
  obtain ⟨R1, hR1⟩ : ∃ R, rowPut ROW (i * 4) X = R := ⟨_, rfl⟩
  have hs1 : R1.size = G * 4 := by rw [← hR1, rowPut_size _ _ _ (by rw [hX, hRs]; omega), hRs]
  rw [hR1] at hcpA
  obtain ⟨W2, hW2⟩ : ∃ W2, W1.setRow N R1 = W2 := ⟨_, rfl⟩
  have r2 : W2.drew.heap[N]? = some (.cells R1 75 (0, 0)) := by rw [← hW2]; exact setRow_heap W1 _ _ _ _ _ r1
  have o2 : ∀ k, k < N → W2.drew.heap[k]? = w.heap[k]? := fun k hk => by rw [← hW2]; exact (setRow_other W1 _ _ _ (by omega)).trans (o1 k hk)
  have z2 : N ≤ W2.drew.heap.size := by rw [← hW2]; show N ≤ (W1.setRow N R1).heap.size; rw [setRow_size]; exact z1
  have u2 : Below B w W2.drew := by
    rw [← hW2]
    exact (u1.trans (below_setRow (Below.refl _ _) (by omega) _)).trans ⟨rfl, rfl, rfl, Nat.le_refl _, fun _ _ => rfl⟩
  rw [hW2] at hcpA
  have hcpB : ∀ ty, (Builtin.copy_ #[25, 25] ty #[.slice (some ⟨N, (i + 1) * 4, none⟩) (n + 1 - (i + 1)) (G - (i + 1)), .slice (some ⟨g, i * 4, none⟩) (n - i) (cap - i)]).run Tryd.prog W2.drew = .ok (goInt ((n - i : Nat) : Int)) (W2.drew.setRow N (rowPut R1 ((i + 1) * 4) (L.drop (i * 4)))) := fun ty =>
    run_copy_k W2.drew _ _ ty 75 4 N ((i + 1) * 4) _ _ ⟨g, i * 4, none⟩ _ _ R1 _ (L.drop (i * 4)) (n - i) Tryd.underlying25 hsz r2 (by simp only [Nat.min_def]; split <;> omega) hdl (fun j u hu => by
      rw [Addr.add_lit]
      have hjl := (List.getElem?_eq_some_iff.1 hu).1
      rw [hdl] at hjl
      rw [List.getElem?_drop] at hu
      exact hcell _ ((o2 g hgw).trans hg) _ u (by omega) hu) (by rw [hdl, hs1]; omega) (fun u hu => h1L u (List.mem_of_mem_drop hu))
  have hrow := ins_left ROW (L.take (i * 4)) X (L.drop (i * 4)) (by rw [hal, hRt]) (by rw [hal, hX, hdl, hRs]; omega)
  rw [hal, hX, show i * 4 + 4 = (i + 1) * 4 by omega, hR1, hdl, show (i + 1) * 4 + (n - i) * 4 = (n + 1) * 4 by omega] at hrow
  have hs2 : (rowPut R1 ((i + 1) * 4) (L.drop (i * 4))).size = G * 4 := by rw [rowPut_size _ _ _ (by rw [hdl, hs1]; omega), hs1]
  obtain ⟨R2, hR2⟩ : ∃ C, rowPut R1 ((i + 1) * 4) (L.drop (i * 4)) = C := ⟨_, rfl⟩
  rw [hR2] at hcpB hrow hs2
  have FIN : Hid ((∃ v', (Ending.returned (.slice (some ⟨N, 0, none⟩) (n + 1) G) : Ending) = .returned v' ∧ (W2.drew.setRow N R2).ownsRow B 75 4 v' (n + 1) (L.take (i * 4) ++ X ++ L.drop (i * 4))) ∧ (∀ k, k < w.heap.size → some k ≠ (Value.slice (some ⟨g, 0, none⟩) n cap).ownBlock → (W2.drew.setRow N R2).heap[k]? = w.heap[k]?) ∧ w.heap.size ≤ (W2.drew.setRow N R2).heap.size ∧ Below B w (W2.drew.setRow N R2)) := hide (by
    rw [hN]
    refine ⟨⟨_, rfl, by rw [List.length_append, List.length_append, hal, hX, hdl]; omega, .inr ⟨N, G, R2, rfl, by omega, setRow_heap _ _ _ _ _ _ r2, hGn, hGm, hs2, hrow⟩⟩, fun k hk _ => (setRow_other _ _ _ _ (by omega)).trans (o2 k hk), ?_, u2.trans (below_setRow (Below.refl _ _) (by omega) _)⟩
    rw [setRow_size]; exact z2)
  obtain ⟨W3, hW3⟩ : ∃ W3, W2.drew.setRow N R2 = W3 := ⟨_, rfl⟩
  rw [hW3] at FIN hcpB
  have hw1 : IntKind.i64.wrap ((i : Int) + 1) = (i : Int) + 1 := by rw [IntKind.wrap_i64]; omega
  have hw2 : IntKind.i64.wrap ((n : Int) + 1) = (n : Int) + 1 := by rw [IntKind.wrap_i64]; omega
  have hb1 : (0 : Int) ≤ (i : Int) + 1 := by omega
  have hG63 : G ≤ 9223372036854775807 := by unfold maxLen at hGm; omega
  have hin : i ≤ n := by omega
  have hic : i ≤ cap := by omega
  have hin' : i + 1 ≤ n + 1 := by omega
  have htn : ((i : Int) + 1).toNat = i + 1 := by omega
  have hb3 : (i : Int) + 1 ≤ (n : Int) + 1 := by omega
  have hb3' : (i : Int) ≤ (n : Int) + 1 := by omega
  have hb3'' : (i : Int) ≤ (n : Int) := by omega
  have hb4 : ¬ (cap = i) := by omega
  have hGi : ¬ (G = i) := by omega
  have hGim : ¬ (G = i + 1) := by omega
  have mixed := mixed
  clear hW1 hW2 hW3 r1 o1 z1 u1 r2 o2 z2 u2 hs1 hs2 hrow hR1 hR2 hRs hRt hROW hcell hold hkk hik hdl hal hgd hg hh hcs htk hlL h1L h1X hX hzc hz3 hzz hi0 hgw hhw hG hN hGm
  go_enter Tryd.func84, Tryd.ntmps84
  go_wp2_with (first
    | (at_builtin; refine Lib.wpList_append_run _ rfl _ _ _ _ rfl _ _ rfl rfl _ _ (hrz _) ?_)
    | (at_builtin; refine wpList_copy_runI _ rfl _ _ 25 25 rfl _ _ rfl rfl (hcpA _) ?_))
  go_region_law_o (refine step_copy_runI rfl _ _ 25 25 rfl _ _ (by simp [Act.eval, Act.put]) (by simp [Act.eval, Act.put]) (hcpB _) ?_)
  go_wp2
  go_ret
  exact unhide FIN
set_option maxHeartbeats 1000000 in
/-- One element more at a place of a row of one's own. -/
theorem insH_calls (xs : List Hol) (hn : xs.length ≤ 1000) (i : Nat) (hi : i ≤ xs.length) (x : Hol) (v : Value) (B h : Nat) (w : World) (hB : B ≤ w.heap.size) (hown : w.ownsRow B 75 4 v xs.length (xs.flatMap holC)) (hh : w.heap[h]? = some (.cells (holC x).toArray 75 (0, 0))) (hne : some h ≠ v.ownBlock) :
    Calls Tryd.prog 84 #[v, .int .i64 (i : Int), .slice (some ⟨h, 0, none⟩) 1 1] w fun e w' => (∃ v', e = .returned v' ∧ w'.ownsRow B 75 4 v' (xs.insertIdx i x).length ((xs.insertIdx i x).flatMap holC)) ∧ (∀ k, k < w.heap.size → some k ≠ v.ownBlock → w'.heap[k]? = w.heap[k]?) ∧ w.heap.size ≤ w'.heap.size ∧ Below B w w' := by
  rw [List.length_insertIdx, if_pos hi, flat_insert holC_len x xs i hi]
  have hl := flatE_len holC_len xs
  have h1 := flat_one holC_one xs
  by_cases he : i = xs.length
  · rw [he, List.take_of_length_le (by rw [hl]; exact Nat.le_refl _), List.drop_of_length_le (by rw [hl]; exact Nat.le_refl _), List.append_nil]
    exact insEndH xs.length hn _ _ (holC_len x) (holC_one x) v B h w hB hown hh
  · rcases hown.2 with ⟨rfl, h0⟩ | ⟨g, cap, cur, rfl, hBg, hg, hnc, hcm, hcs, htk⟩
    · omega
    · by_cases hroom : xs.length + 1 ≤ cap
      · exact insRoomH xs.length hn i (by omega) _ _ (holC_len x) (holC_one x) h1 g cap cur B h w hBg hg hroom hcm hcs htk hl (fun e => hne (by rw [e]; rfl)) hh
      · exact insGrowH xs.length hn i (by omega) _ _ (holC_len x) (holC_one x) h1 g cap cur B h w hB hg hnc (by omega) hcs htk hl hh
end Go.Proofs.YtjfnaedcdmmigaaDoor

namespace Go.Proofs.YtjfnaedcdmmigaaDoor
open Go Go.RowKit
set_option linter.unusedSimpArgs false
set_option linter.unusedVariables false

/-- The holdings behind: somebody holds so much; none of 0 stays or comes. -/
def pWith (hs : List Hol) (o : Nat) (n a : List UInt8) (k : Nat) : List Hol :=
  if hs.findIdx (isH o n a) < hs.length then
    (if 0 < k then hs.modify (hs.findIdx (isH o n a)) (fun h => { h with a := k }) else hs.eraseIdx (hs.findIdx (isH o n a)))
  else (if 0 < k then hs.insertIdx (hs.findIdx (fun h => decide (0 < hOrd h.o h.n h.w o n a))) ⟨o, n, a, k⟩ else hs)
theorem flat_modify {α : Type} {enc : α → List Value} {s m : Nat} (he : ∀ x, (enc x).length = s) (hm : m < s) (f : α → α) (u : α → Value) (hf : ∀ x, enc (f x) = (enc x).set m (u x)) : ∀ (xs : List α) (j : Nat) (x : α), xs[j]? = some x → (xs.modify j f).flatMap enc = (xs.flatMap enc).set (j * s + m) (u x)
  | [], j, x, h => by simp at h
  | y :: xs, 0, x, h => by
    simp at h; subst h
    rw [List.modify_zero_cons, List.flatMap_cons, List.flatMap_cons, hf, Nat.zero_mul, Nat.zero_add, List.set_append_left _ _ (by rw [he]; exact hm)]
  | y :: xs, j + 1, x, h => by
    have ih := flat_modify he hm f u hf xs j x (by simpa using h)
    rw [List.modify_succ_cons, List.flatMap_cons, List.flatMap_cons, ih, List.set_append_right _ _ (by rw [he, Nat.succ_mul]; omega), he, show (j + 1) * s + m - s = j * s + m by rw [Nat.succ_mul]; omega]
/-- A cell of a row of one's own is written. -/
theorem owns_set {w : World} {B s n g cap m : Nat} {t : TypeId} {xs : List Value} (h : w.ownsRow B t s (.slice (some ⟨g, 0, none⟩) n cap) n xs) (hm : m < n * s) (u : Value) : (w.setCell ⟨g, m, none⟩ u).ownsRow B t s (.slice (some ⟨g, 0, none⟩) n cap) n (xs.set m u) := by
  obtain ⟨h1, h2⟩ := h
  refine ⟨by rw [List.length_set]; exact h1, ?_⟩
  rcases h2 with ⟨h2, _⟩ | ⟨g', cap', cur, e, hB, hg, hc, hcm, hs, ht⟩
  · cases h2
  · simp only [Value.slice.injEq, Option.some.injEq, Addr.mk.injEq, true_and, and_true] at e
    obtain ⟨rfl, rfl⟩ := e
    refine .inr ⟨g, cap, _, rfl, hB, heap_setCell_same w g m cur t u hg, hc, hcm, by simpa using hs, ?_⟩
    rw [← ht]
    simp [List.take_set]
theorem owns_block {w : World} {B s n cap : Nat} {t : TypeId} {p : Option Addr} {xs : List Value} (h : w.ownsRow B t s (.slice p n cap) n xs) (hn : 0 < n) : ∃ g cur, p = some ⟨g, 0, none⟩ ∧ B ≤ g ∧ w.heap[g]? = some (.cells cur t (0, 0)) ∧ cur.size = cap * s ∧ n ≤ cap := by
  rcases h.2 with ⟨e, h0⟩ | ⟨g', cap', cur, e, hB, hg, hc, hcm, hs, ht⟩
  · omega
  · simp only [Value.slice.injEq] at e
    obtain ⟨rfl, _, rfl⟩ := e
    exact ⟨g', cur, rfl, hB, hg, hs, hc⟩
theorem purSz (v1 v2 : Value) : (Tryd.prog.info? 27).map (·.size) = some (#[v1, v2] : Array Value).size := by kernel_rfl
/-- A purse in a variable of the call's own. -/
structure QV (w : World) (B G : Nat) (v1 v2 : Value) (ts : List Tkn) (hs : List Hol) : Prop where
  row : w.heap[G]? = some (.cells #[v1, v2] 27 (0, 0))
  tok : w.ownsRow B 38 7 v1 ts.length (ts.flatMap tokC)
  hol : w.ownsRow B 75 4 v2 hs.length (hs.flatMap holC)
theorem QV.below {w w' : World} {B G : Nat} {v1 v2 : Value} {ts : List Tkn} {hs : List Hol} (h : QV w B G v1 v2 ts hs) (hb : Below w.heap.size w w') : QV w' B G v1 v2 ts hs :=
  ⟨Below.at hb (Array.getElem?_eq_some_iff.1 h.row).1 h.row, vowns_below h.tok hb, vowns_below h.hol hb⟩
theorem QV.out {w : World} {B G H : Nat} {v1 v2 : Value} {ts : List Tkn} {hs : List Hol} (h : QV w B G v1 v2 ts hs) (C D : Array Value) (hH : w.heap[H]? = some (.cells C 27 (0, 0))) : PO (w.setRow H D) B (.agg #[v1, v2]) ts hs :=
  PO.other (w := w) ⟨v1, v2, rfl, h.tok, h.hol⟩ (fun k hk => setRow_other _ _ _ _ hk) C 27 (by decide) (by decide) hH
theorem two_one (v1 v2 : Value) (h1 : v1.oneCell' = true) (h2 : v2.oneCell' = true) : (#[v1, v2] : Array Value).all (·.oneCell') = true := by simp [h1, h2]
theorem owns_one {w : World} {B s n : Nat} {t : TypeId} {v : Value} {xs : List Value} (h : w.ownsRow B t s v n xs) : v.oneCell' = true := by
  rcases h.2 with ⟨rfl, _⟩ | ⟨g', cap', cur, rfl, _⟩ <;> rfl
end Go.Proofs.YtjfnaedcdmmigaaDoor

namespace Go.Proofs.YtjfnaedcdmmigaaDoor
open Go Go.RowKit
set_option linter.unusedSimpArgs false
set_option linter.unusedVariables false

/-- What the document asks of the holding at a place. -/
def ordH (hs : List Hol) (h : Hol) : Nat → Bool
  | 0 => true
  | k + 1 => match hs[k]? with | some s => decide (hOrd s.o s.n s.w h.o h.n h.w < 0) | none => true
def okH (ts : List Tkn) (hs : List Hol) (i : Nat) (h : Hol) : Bool :=
  ordH hs h i && (!decide (h.a = 0) && (pRight h.w && !decide (pIx (isT h.o h.n) ts < 0)))
def zHol : Hol := ⟨0, [], [], 0⟩
def rH (ts : List Tkn) (hs : List Hol) : Bool := (List.range hs.length).all fun i => okH ts hs i (hs.getD i zHol)
theorem rH_true (ts : List Tkn) (hs : List Hol) : (∀ i t, i < hs.length → hs[i]? = some t → okH ts hs i t = true) ↔ rH ts hs = true := by
  unfold rH
  rw [List.all_eq_true]
  constructor
  · intro h i hi
    have hi' := List.mem_range.1 hi
    exact h i _ hi' (by rw [List.getD_eq_getElem?_getD, List.getElem?_eq_getElem hi']; rfl)
  · intro h i t hi ht
    have := h i (List.mem_range.2 hi)
    rw [List.getD_eq_getElem?_getD, ht] at this
    exact this
theorem holOneR (t : Hol) : ((holC t).toArray).all (·.oneCell') = true := by simp [holC, Value.oneCell']
theorem fldKey (a b c : Value) (W : World) : (Instr.field 81 (.agg #[a, b, c]) 0).run Tryd.prog W = .ok (.agg #[a, b]) W := by
  first | kernel_rfl | rfl | go_simp
set_option maxHeartbeats 4000000 in
set_option maxRecDepth 100000 in
theorem rightHols_calls (ts : List Tkn) (hs : List Hol) (hn1 : ts.length ≤ 1000) (hn2 : hs.length ≤ 1000) (hok : ∀ t ∈ hs, t.ok) (v : Value) (w : World) (hP : PM w v ts hs) (hU : UTabs w) :
    Calls Tryd.prog 37 #[v] w fun e w' => e = .returned (.bool (rH ts hs)) ∧ Below w.heap.size w w' := by
  obtain ⟨p1, c1, p2, c2, rfl, hT, hH⟩ := hP
  have q0 := al1 w (.cells #[.slice p1 ts.length c1, .slice p2 hs.length c2] 27)
  have b0 : Below w.heap.size w (w.alloc (.cells #[.slice p1 ts.length c1, .slice p2 hs.length c2] 27)) := (Below.refl _ _).alloc (Nat.le_refl _) _
  have sX : (w.alloc (.cells #[.slice p1 ts.length c1, .slice p2 hs.length c2] 27)).heap.size = w.heap.size + 1 := by simp
  have hR := hide (rH_true ts hs)
  have CP := hide fun o n W a b => tokPlace_calls ts hs hn1 hn2 p1 p2 c1 c2 o n W a b
  generalize rH ts hs = RR at *
  obtain ⟨m, hm⟩ : ∃ n, ts.length = n := ⟨_, rfl⟩
  obtain ⟨n, hn⟩ : ∃ n, hs.length = n := ⟨_, rfl⟩
  rw [hn] at hn2 hR
  rw [hn, hm] at q0 b0 sX CP ⊢
  obtain ⟨X, hX⟩ : ∃ X, w.alloc (.cells #[.slice p1 m c1, .slice p2 n c2] 27) = X := ⟨_, rfl⟩
  have HX := hide hX
  rw [hX] at q0 b0 sX
  have HN := hide hn
  have HT := hide (hT.below b0)
  have HH := hide (hH.below b0)
  have HU := hide (hU.below' b0)
  have HO := hide hok
  have B0 := hide b0
  have SX := hide sX
  have QX : Hid (∀ W, Below X.heap.size X W → W.heap[w.heap.size]? = some (.cells #[.slice p1 m c1, .slice p2 n c2] 27 (0, 0))) := hide fun W hW => Below.at hW (by omega) q0
  have CL : Hid (∀ W, Below X.heap.size X W → W.cell? ⟨w.heap.size, 1, none⟩ = some (.slice p2 n c2)) := hide fun W hW => by
    rw [cell_of_row _ _ _ _ _ _ (unhide QX W hW)]; rfl
  have PS : (Tryd.prog.info? 27).map (·.size) = some (#[Value.slice p1 m c1, .slice p2 n c2] : Array Value).size := purSz _ _
  have k01 := unhide CL X (Below.refl _ _)
  clear hT hH hU hok hn hm hX q0 b0 sX hn1
  go_enter Tryd.func37, Tryd.ntmps37
  go_upto_region 1 with fail
  change Code.wp _ _ _ _ (w.alloc (.cells #[.slice p1 m c1, .slice p2 n c2] 27))
  rw [unhide HX]
  go_wp2
  clear k01
  go_loopw [3, 4, 8] (fun _ _ i wr => ∃ j : Nat, j ≤ n ∧ i = .int .i64 (j : Int) ∧ Below X.heap.size X wr ∧ Hid (∀ i t, i < j → hs[i]? = some t → okH ts hs i t = true)) (fun _ _ i _ => n - (intOf i).toNat)
  case atStart => exact ⟨0, by omega, rfl, Below.refl _ _, hide fun i t hi => absurd hi (Nat.not_lt_zero _)⟩
  case round =>
    obtain ⟨j, hj, rfl, hb, hyes⟩ := hrel
    by_cases hlt : j < n
    · have hd : decide (j < n) = true := by simpa using hlt
      have bk : (j : Int) < (n : Int) := by omega
      obtain ⟨y, hy⟩ : ∃ y, hs[j]? = some y := ⟨_, List.getElem?_eq_getElem (by rw [unhide HN]; exact hlt)⟩
      obtain ⟨b, off, rfl, hz1, hr1⟩ := EL.row holC_len (by decide) ((unhide HH).below hb) hy
      have hyo : y.ok := unhide HO y (List.mem_of_getElem? hy)
      have hsz : (Tryd.prog.info? 75).map (·.size) = some (holC y).length := sizeH y
      have hon := holOneR y
      have hsr : ((holC zHol).toArray).size = ((holC y).toArray).size := rfl
      have p1' := al1 wr (.cells (holC zHol).toArray 75)
      -- the world behind the holding's copy
      obtain ⟨V, hV⟩ : ∃ V, (wr.alloc (.cells (holC zHol).toArray 75)).setRow wr.heap.size (holC y).toArray = V := ⟨_, rfl⟩
      have HV := hide hV
      have vG : V.heap[wr.heap.size]? = some (.cells (holC y).toArray 75 (0, 0)) := by rw [← hV]; exact setRow_heap _ _ _ _ _ _ p1'
      have vb : Below wr.heap.size wr V := by rw [← hV]; exact below_setRow ((Below.refl _ _).alloc (Nat.le_refl _) _) (Nat.le_refl _) _
      have vB : Below X.heap.size X V := hb.trans (vb.mono hb.size)
      have VB := hide vB
      have zG : wr.heap.size < V.heap.size := (Array.getElem?_eq_some_iff.1 vG).1
      have cN : Hid (∀ W, Below V.heap.size V W → W.heap[wr.heap.size]? = some (.cells (holC y).toArray 75 (0, 0)) ∧ W.cell? ⟨wr.heap.size, 2, none⟩ = some (.string (str y.w)) ∧ W.cell? ⟨wr.heap.size, 3, none⟩ = some (.int .u64 (y.a : Int))) := hide fun W hW => by
        have a := Below.at hW zG vG
        exact ⟨a, by rw [cell_of_row _ _ _ _ _ _ a]; rfl, by rw [cell_of_row _ _ _ _ _ _ a]; rfl⟩
      have cR := hide fun W => right_calls y.w (by have := hyo.2.2.1; omega) W
      have kY := hide fun W => heldKey_calls y W
      -- what is asked of this holding
      obtain ⟨ord, hord⟩ : ∃ ord : Bool, ordH hs y j = ord := ⟨_, rfl⟩
      have hokT : okH ts hs j y = (ord && (!decide (y.a = 0) && (pRight y.w && !decide (pIx (isT y.o y.n) ts < 0)))) := by rw [← hord]; rfl
      have hyes' : okH ts hs j y = true → Hid (∀ i t, i < j + 1 → hs[i]? = some t → okH ts hs i t = true) := fun h => hide fun i t hi ht => by
        by_cases he : i = j
        · rw [he] at ht ⊢; rw [hy] at ht; cases ht; exact h
        · exact unhide hyes i t (by omega) ht
      have hno : okH ts hs j y = false → RR = false := fun h => by
        cases hr : RR with
        | false => rfl
        | true => have := (unhide hR).2 hr j y hlt hy; rw [h] at this; cases this
      rw [hokT] at hyes' hno
      have HY := hide hyes'
      have HNO := hide hno
      have HORD := hide hord
      have CPy := hide fun W a b => unhide CP y.o y.n W a b
      obtain ⟨C, hC⟩ : ∃ C, holC y = C := ⟨_, rfl⟩
      have HC := hide hC
      rw [hC] at hr1 hsz hon hsr vG cN kY
      have HVC : Hid ((wr.alloc (.cells (holC zHol).toArray 75)).setRow wr.heap.size C.toArray = V) := by rw [← hC]; exact HV
      have hszY : (Tryd.prog.info? 75).map (·.size) = some C.toArray.size := by simpa using hsz
      clear hC hokT hyes' hno hord hV HV vB hb hyes hy CP
      go_wp2_with (first
        | (refine wpList_load_mid rfl 75 (.tmp 11) rfl b (off + j * 4) rfl C _ hr1 Tryd.underlying75 rfl hsz ?_)
        | (refine wpList_store_row rfl 75 (.tmp 4) (.tmp 12) rfl (wr.heap.size) C.toArray rfl rfl 75 _ p1' hsz hsr hon ?_))
      change Code.wp _ _ _ _ ((wr.alloc (.cells (holC zHol).toArray 75)).setRow wr.heap.size C.toArray)
      rw [unhide HVC]
      clear HVC p1' hr1
      by_cases hj0 : j = 0
      · have ho : ord = true := by rw [← unhide HORD, hj0]; rfl
        subst ho
        have dz : decide ((0 : Int) < (j : Int)) = false := by simp [hj0]
        have dz2 : decide (0 < j) = false := by simp [hj0]
        clear HORD vG hsz hon hsr hj0
        go_wp2_with fail
        refine wp_region_below mixed (by kernel_rfl) ?_
        iterate 2 quiet_step (fail)
        repeat (go_big_quiet_step (fail))
        refine wpQuiet_nil ?_
        intro w3 b3
        have bV := hide ((unhide VB).trans (b3.mono (unhide VB).size))
        have bW := hide b3
        have hw3 := hide fun d os => b3.trans ((below_regrown w3 d os).mono b3.size)
        have kA : ∀ d os, (Sort.grow (redrawn w3 d) os).cell? ⟨wr.heap.size, 3, none⟩ = some (.int .u64 (y.a : Int)) := fun d os => (unhide cN _ (unhide hw3 d os)).2.2
        have kW : ∀ d os, (Sort.grow (redrawn w3 d) os).cell? ⟨wr.heap.size, 2, none⟩ = some (.string (str y.w)) := fun d os => (unhide cN _ (unhide hw3 d os)).2.1
        clear b3
        by_cases hA : y.a = 0
        · have dA : decide ((y.a : Int) = 0) = true := by simp [hA]
          have dA2 : decide (y.a = 0) = true := by simp [hA]
          have dB : ((y.a : Int) == (0 : Int)) = true := by simp [hA]
          go_wp2_with fail
          refine wp_region_below mixed (by kernel_rfl) ?_
          iterate 4 quiet_step (fail)
          repeat (go_big_quiet_step (fail))
          refine wpQuiet_nil ?_
          intro w4 b4
          have b4V := hide ((unhide bV).trans (b4.mono (unhide bV).size))
          have F := hide ((unhide B0).trans ((unhide b4V).mono (unhide B0).size))
          have hz := hide (unhide HNO (by simp [hA]))
          go_wp2
          go_ret
          exact ⟨by rw [unhide hz]; rfl, unhide F⟩
        · have dA : decide ((y.a : Int) = 0) = false := by simp [hA]
          have dA2 : decide (y.a = 0) = false := by simp [hA]
          have dB : ((y.a : Int) == (0 : Int)) = false := by simp [hA]
          have kR := hide fun d os => Calls.regrown_of (w := w3) (d := d) (os := os) (unhide cR _)
          generalize hPR : pRight y.w = PR at *
          have HPR := hide hPR
          clear hPR
          cases PR with
          | false =>
            go_wp2_with fail
            refine wp_region_below mixed (by kernel_rfl) ?_
            iterate 6 quiet_step (fail)
            quiet_step (exact unhide kR _ _)
            iterate 3 quiet_step (fail)
            repeat (go_big_quiet_step (fail))
            refine wpQuiet_nil ?_
            intro w4 b4
            have b4V := hide ((unhide bV).trans (b4.mono (unhide bV).size))
            have F := hide ((unhide B0).trans ((unhide b4V).mono (unhide B0).size))
            have hz := hide (unhide HNO (by simp))
            go_wp2
            go_ret
            exact ⟨by rw [unhide hz]; rfl, unhide F⟩
          | true =>
            have kK := hide fun d os => Calls.regrown_of (w := w3) (d := d) (os := os) (unhide kY _)
            have kT := hide fun d os => Calls.regrown_of (w := w3) (d := d) (os := os) (unhide CPy _ ((unhide HT).below ((unhide bV).trans ((below_regrown w3 d os).mono (unhide bV).size))) ((unhide HH).below ((unhide bV).trans ((below_regrown w3 d os).mono (unhide bV).size))))
            have R0 : Hid (∀ w', (∃ p : Regrown, w' = Sort.grow (redrawn w3 p.d) p.os) → w'.heap[w.heap.size]? = some (.cells #[.slice p1 m c1, .slice (some ⟨b, off, none⟩) n c2] 27 (0, 0))) := hide fun w' ⟨p, hp⟩ => by rw [hp]; exact unhide QX _ ((unhide bV).trans ((below_regrown w3 p.d p.os).mono (unhide bV).size))
            have R1 : Hid (∀ w', (∃ p : Regrown, w' = Sort.grow (redrawn w3 p.d) p.os) → w'.heap[wr.heap.size]? = some (.cells C.toArray 75 (0, 0))) := hide fun w' ⟨p, hp⟩ => by rw [hp]; exact (unhide cN _ (unhide hw3 p.d p.os)).1
            have hF := fun W => fldKey (.int .u32 (y.o : Int)) (.string (str y.n)) (.string (str y.w)) W
            unfold hkv at kK
            unfold tkv at kT
            by_cases hp : pIx (isT y.o y.n) ts < 0
            · have dp : decide (pIx (isT y.o y.n) ts < 0) = true := by simpa using hp
              generalize pIx (isT y.o y.n) ts = PI at *
              go_wp2_with fail
              refine wp_region_below mixed (by kernel_rfl) ?_
              iterate 6 quiet_step (fail)
              quiet_step (exact unhide kR _ _)
              iterate 3 quiet_step (fail)
              refine wpQuiet_load_row rfl 27 (.tmp 1) rfl w.heap.size rfl 27 _ (0, 0) _ (unhide R0) Tryd.underlying27 rfl PS ?_
              refine wpQuiet_load_row rfl 75 (.tmp 4) rfl wr.heap.size rfl 75 C.toArray (0, 0) _ (unhide R1) Tryd.underlying75 rfl hszY ?_
              quiet_step (exact unhide kK _ _)
              quiet_step (fail)
              quiet_step (exact unhide kT _ _)
              iterate 2 quiet_step (fail)
              refine wpQuiet_nil ?_
              intro w4 b4
              have b4V := hide ((unhide bV).trans (b4.mono (unhide bV).size))
              have F := hide ((unhide B0).trans ((unhide b4V).mono (unhide B0).size))
              have hz := hide (unhide HNO (by simp [hp]))
              go_wp2
              go_ret
              exact ⟨by rw [unhide hz]; rfl, unhide F⟩
            · have dp : decide (pIx (isT y.o y.n) ts < 0) = false := by simpa using hp
              have HYY := hide (unhide HY (by simp [hA]; omega))
              generalize pIx (isT y.o y.n) ts = PI at *
              go_wp2_with fail
              refine wp_region_below mixed (by kernel_rfl) ?_
              iterate 6 quiet_step (fail)
              quiet_step (exact unhide kR _ _)
              iterate 3 quiet_step (fail)
              refine wpQuiet_load_row rfl 27 (.tmp 1) rfl w.heap.size rfl 27 _ (0, 0) _ (unhide R0) Tryd.underlying27 rfl PS ?_
              refine wpQuiet_load_row rfl 75 (.tmp 4) rfl wr.heap.size rfl 75 C.toArray (0, 0) _ (unhide R1) Tryd.underlying75 rfl hszY ?_
              quiet_step (exact unhide kK _ _)
              quiet_step (fail)
              quiet_step (exact unhide kT _ _)
              iterate 2 quiet_step (fail)
              refine wpQuiet_nil ?_
              intro w4 b4
              have b4V := hide ((unhide bV).trans (b4.mono (unhide bV).size))
              go_wp2
              go_roundw
              case rel => exact ⟨j + 1, by omega, by go_num, unhide b4V, unhide HYY⟩
              case measure => simp [intOf]; omega
      · obtain ⟨k, hk⟩ : ∃ k, j = k + 1 := ⟨j - 1, by omega⟩
        have dz : decide ((0 : Int) < (j : Int)) = true := by simp; omega
        have dz2 : decide (0 < j) = true := by simp; omega
        have ds : (j : Int) - 1 = (k : Int) := by omega
        have bk2 : (k : Int) < (n : Int) := by omega
        have hw : IntKind.i64.wrap (k : Int) = (k : Int) := by rw [IntKind.wrap_i64]; omega
        have dk : decide (k < n) = true := by simp; omega
        obtain ⟨s, hs'⟩ : ∃ s, hs[k]? = some s := ⟨_, List.getElem?_eq_getElem (by rw [unhide HN]; omega)⟩
        have hso : s.ok := unhide HO s (List.mem_of_getElem? hs')
        obtain ⟨b', off', heq, hz2, hr2⟩ := EL.row holC_len (by decide) ((unhide HH).below (unhide VB)) hs'
        cases heq
        have hsz2 : (Tryd.prog.info? 75).map (·.size) = some (holC s).length := sizeH s
        have hord' : ord = decide (hOrd s.o s.n s.w y.o y.n y.w < 0) := by rw [← unhide HORD, hk]; show (match hs[k]? with | some s => decide (hOrd s.o s.n s.w y.o y.n y.w < 0) | none => true) = _; rw [hs']
        have kS := hide fun d os => Calls.regrown_of (w := V) (d := d) (os := os) (heldKey_calls s _)
        have kY' := hide fun d os => Calls.regrown_of (w := V) (d := d) (os := os) (unhide kY _)
        have kO := hide fun d os => Calls.regrown_of (w := V) (d := d) (os := os) (holOrder_calls s.o s.n s.w y.o y.n y.w hso.2.1 hso.2.2.1 hyo.2.1 hyo.2.2.1 _ (((unhide HU).below' (unhide VB)).below' (below_regrown V d os)))
        have kL : ∀ d os, (Sort.grow (redrawn V d) os).cell? ⟨w.heap.size, 1, none⟩ = some (.slice (some ⟨b, off, none⟩) n c2) := fun d os => unhide CL _ ((unhide VB).trans ((below_regrown V d os).mono (unhide VB).size))
        have R0 : Hid (∀ w', (∃ p : Regrown, w' = Sort.grow (redrawn V p.d) p.os) → w'.heap[wr.heap.size]? = some (.cells C.toArray 75 (0, 0))) := hide fun w' ⟨p, hp⟩ => by rw [hp]; exact Below.at (below_regrown V p.d p.os) zG vG
        have R1 : Hid (∀ w', (∃ p : Regrown, w' = Sort.grow (redrawn V p.d) p.os) → w'.rangeAt b (off + k * 4) (holC s)) := hide fun w' ⟨p, hp⟩ => by rw [hp]; exact rangeAt_belowP2 hr2 (below_regrown V p.d p.os) hz2
        generalize hOrd s.o s.n s.w y.o y.n y.w = R at *
        generalize hkv s.o s.n s.w = TS at *
        generalize hTY : hkv y.o y.n y.w = TY at kY' kO
        generalize holC s = S at *
        clear HORD vG hsz hon hsr hr2 hs' hso hTY
        go_wp2_with fail
        refine wp_region_below mixed (by kernel_rfl) ?_
        iterate 8 quiet_step (fail)
        refine wpQuiet_load_mid rfl 75 (.tmp 20) rfl b (off + k * 4) rfl S _ (unhide R1) Tryd.underlying75 rfl hsz2 ?_
        quiet_step (exact unhide kS _ _)
        refine wpQuiet_load_row rfl 75 (.tmp 4) rfl wr.heap.size rfl 75 C.toArray (0, 0) _ (unhide R0) Tryd.underlying75 rfl hszY ?_
        quiet_step (exact unhide kY' _ _)
        quiet_step (exact unhide kO _ _)
        iterate 2 quiet_step (fail)
        refine wpQuiet_nil ?_
        intro w3 b3
        clear kS kY' kO R0 R1 kL
        by_cases hge : 0 ≤ R
        · have dg : decide (0 ≤ R) = true := by simpa using hge
          have ho : ord = false := by rw [hord']; simpa using hge
          subst ho
          have F := hide ((unhide B0).trans (((unhide VB).trans (b3.mono (unhide VB).size)).mono (unhide B0).size))
          have hz := hide (unhide HNO (by simp))
          go_wp2
          go_ret
          exact ⟨by rw [unhide hz]; rfl, unhide F⟩
        · have dg : decide (0 ≤ R) = false := by simpa using hge
          have ho : ord = true := by rw [hord']; simp; omega
          subst ho
          clear hord'
          have bV := hide ((unhide VB).trans (b3.mono (unhide VB).size))
          have bW := hide b3
          have hw3 := hide fun d os => b3.trans ((below_regrown w3 d os).mono b3.size)
          have kA : ∀ d os, (Sort.grow (redrawn w3 d) os).cell? ⟨wr.heap.size, 3, none⟩ = some (.int .u64 (y.a : Int)) := fun d os => (unhide cN _ (unhide hw3 d os)).2.2
          have kW : ∀ d os, (Sort.grow (redrawn w3 d) os).cell? ⟨wr.heap.size, 2, none⟩ = some (.string (str y.w)) := fun d os => (unhide cN _ (unhide hw3 d os)).2.1
          clear b3
          by_cases hA : y.a = 0
          · have dA : decide ((y.a : Int) = 0) = true := by simp [hA]
            have dA2 : decide (y.a = 0) = true := by simp [hA]
            have dB : ((y.a : Int) == (0 : Int)) = true := by simp [hA]
            go_wp2_with fail
            refine wp_region_below mixed (by kernel_rfl) ?_
            iterate 4 quiet_step (fail)
            repeat (go_big_quiet_step (fail))
            refine wpQuiet_nil ?_
            intro w4 b4
            have b4V := hide ((unhide bV).trans (b4.mono (unhide bV).size))
            have F := hide ((unhide B0).trans ((unhide b4V).mono (unhide B0).size))
            have hz := hide (unhide HNO (by simp [hA]))
            go_wp2
            go_ret
            exact ⟨by rw [unhide hz]; rfl, unhide F⟩
          · have dA : decide ((y.a : Int) = 0) = false := by simp [hA]
            have dA2 : decide (y.a = 0) = false := by simp [hA]
            have dB : ((y.a : Int) == (0 : Int)) = false := by simp [hA]
            have kR := hide fun d os => Calls.regrown_of (w := w3) (d := d) (os := os) (unhide cR _)
            generalize hPR : pRight y.w = PR at *
            have HPR := hide hPR
            clear hPR
            cases PR with
            | false =>
              go_wp2_with fail
              refine wp_region_below mixed (by kernel_rfl) ?_
              iterate 6 quiet_step (fail)
              quiet_step (exact unhide kR _ _)
              iterate 3 quiet_step (fail)
              repeat (go_big_quiet_step (fail))
              refine wpQuiet_nil ?_
              intro w4 b4
              have b4V := hide ((unhide bV).trans (b4.mono (unhide bV).size))
              have F := hide ((unhide B0).trans ((unhide b4V).mono (unhide B0).size))
              have hz := hide (unhide HNO (by simp))
              go_wp2
              go_ret
              exact ⟨by rw [unhide hz]; rfl, unhide F⟩
            | true =>
              have kK := hide fun d os => Calls.regrown_of (w := w3) (d := d) (os := os) (unhide kY _)
              have kT := hide fun d os => Calls.regrown_of (w := w3) (d := d) (os := os) (unhide CPy _ ((unhide HT).below ((unhide bV).trans ((below_regrown w3 d os).mono (unhide bV).size))) ((unhide HH).below ((unhide bV).trans ((below_regrown w3 d os).mono (unhide bV).size))))
              have R0 : Hid (∀ w', (∃ p : Regrown, w' = Sort.grow (redrawn w3 p.d) p.os) → w'.heap[w.heap.size]? = some (.cells #[.slice p1 m c1, .slice (some ⟨b, off, none⟩) n c2] 27 (0, 0))) := hide fun w' ⟨p, hp⟩ => by rw [hp]; exact unhide QX _ ((unhide bV).trans ((below_regrown w3 p.d p.os).mono (unhide bV).size))
              have R1 : Hid (∀ w', (∃ p : Regrown, w' = Sort.grow (redrawn w3 p.d) p.os) → w'.heap[wr.heap.size]? = some (.cells C.toArray 75 (0, 0))) := hide fun w' ⟨p, hp⟩ => by rw [hp]; exact (unhide cN _ (unhide hw3 p.d p.os)).1
              have hF := fun W => fldKey (.int .u32 (y.o : Int)) (.string (str y.n)) (.string (str y.w)) W
              unfold hkv at kK
              unfold tkv at kT
              by_cases hp : pIx (isT y.o y.n) ts < 0
              · have dp : decide (pIx (isT y.o y.n) ts < 0) = true := by simpa using hp
                generalize pIx (isT y.o y.n) ts = PI at *
                go_wp2_with fail
                refine wp_region_below mixed (by kernel_rfl) ?_
                iterate 6 quiet_step (fail)
                quiet_step (exact unhide kR _ _)
                iterate 3 quiet_step (fail)
                refine wpQuiet_load_row rfl 27 (.tmp 1) rfl w.heap.size rfl 27 _ (0, 0) _ (unhide R0) Tryd.underlying27 rfl PS ?_
                refine wpQuiet_load_row rfl 75 (.tmp 4) rfl wr.heap.size rfl 75 C.toArray (0, 0) _ (unhide R1) Tryd.underlying75 rfl hszY ?_
                quiet_step (exact unhide kK _ _)
                quiet_step (fail)
                quiet_step (exact unhide kT _ _)
                iterate 2 quiet_step (fail)
                refine wpQuiet_nil ?_
                intro w4 b4
                have b4V := hide ((unhide bV).trans (b4.mono (unhide bV).size))
                have F := hide ((unhide B0).trans ((unhide b4V).mono (unhide B0).size))
                have hz := hide (unhide HNO (by simp [hp]))
                go_wp2
                go_ret
                exact ⟨by rw [unhide hz]; rfl, unhide F⟩
              · have dp : decide (pIx (isT y.o y.n) ts < 0) = false := by simpa using hp
                have HYY := hide (unhide HY (by simp [hA]; omega))
                generalize pIx (isT y.o y.n) ts = PI at *
                go_wp2_with fail
                refine wp_region_below mixed (by kernel_rfl) ?_
                iterate 6 quiet_step (fail)
                quiet_step (exact unhide kR _ _)
                iterate 3 quiet_step (fail)
                refine wpQuiet_load_row rfl 27 (.tmp 1) rfl w.heap.size rfl 27 _ (0, 0) _ (unhide R0) Tryd.underlying27 rfl PS ?_
                refine wpQuiet_load_row rfl 75 (.tmp 4) rfl wr.heap.size rfl 75 C.toArray (0, 0) _ (unhide R1) Tryd.underlying75 rfl hszY ?_
                quiet_step (exact unhide kK _ _)
                quiet_step (fail)
                quiet_step (exact unhide kT _ _)
                iterate 2 quiet_step (fail)
                refine wpQuiet_nil ?_
                intro w4 b4
                have b4V := hide ((unhide bV).trans (b4.mono (unhide bV).size))
                go_wp2
                go_roundw
                case rel => exact ⟨j + 1, by omega, by go_num, unhide b4V, unhide HYY⟩
                case measure => simp [intOf]; omega
    · have hd : decide (j < n) = false := by simpa using hlt
      have hr : RR = true := (unhide hR).1 fun i t hi ht => unhide hyes i t (by omega) ht
      have F := hide ((unhide B0).trans (hb.mono (unhide B0).size))
      clear hb
      go_wp2
      go_ret
      exact ⟨by rw [hr]; rfl, unhide F⟩
end Go.Proofs.YtjfnaedcdmmigaaDoor

namespace Go.Proofs.YtjfnaedcdmmigaaDoor
open Go Go.RowKit

theorem wpList_load_row_gd {P : Program} {ops : Array Oper} {rest : List Oper} {o : Oper} {a : Act} {w : World} {Q : Exit → Act → World → Prop} (hw : Region.wanted o (yielded ops a.tmps) = true) (ty : TypeId) (x : Operand) (ho : o.op = .load ty x)
    (g : Nat) (hx : a.eval x = .pointer (some ⟨g, 0, none⟩)) (t : TypeId) (cs : Array Value) (fr : Nat × Nat) (d : TypeDesc) (hg : w.heap[g]? = some (.cells cs t fr))
    (hu : P.underlying ty = some d) (hd : (match d with | .struct _ | .array _ _ => true | _ => false) = true) (hi : (P.info? ty).map (·.size) = some cs.size)
    (h : wpList P ops Q rest (a.put o.dst (.agg cs)) w) : wpList P ops Q (o :: rest) a w :=
  wpList_step fun K hK => by
    rw [if_pos hw]
    exact wp_load_row ty x ho g hx t cs fr d hg hu hd hi (hK _ _ h)
end Go.Proofs.YtjfnaedcdmmigaaDoor

namespace Go.Proofs.YtjfnaedcdmmigaaDoor
open Go Go.RowKit
set_option linter.unusedSimpArgs false
set_option linter.unusedVariables false

def pRt (ts : List Tkn) (hs : List Hol) : Bool := decide (ts.length ≤ 32) && (rT ts && rH ts hs)
set_option maxHeartbeats 4000000 in
set_option maxRecDepth 100000 in
theorem pright_calls (ts : List Tkn) (hs : List Hol) (hn1 : ts.length ≤ 1000) (hn2 : hs.length ≤ 1000) (htk : ∀ t ∈ ts, t.ok) (hok : ∀ t ∈ hs, t.ok) (v : Value) (w : World) (hP : PM w v ts hs) (hU : UTabs w) :
    Calls Tryd.prog 11 #[v] w fun e w' => e = .returned (.bool (pRt ts hs)) ∧ Below w.heap.size w w' := by
  obtain ⟨p1, c1, p2, c2, rfl, hT, hH⟩ := hP
  have q0 := al1 w (.cells #[.slice p1 ts.length c1, .slice p2 hs.length c2] 27)
  have b0 : Below w.heap.size w (w.alloc (.cells #[.slice p1 ts.length c1, .slice p2 hs.length c2] 27)) := (Below.refl _ _).alloc (Nat.le_refl _) _
  have sX : (w.alloc (.cells #[.slice p1 ts.length c1, .slice p2 hs.length c2] 27)).heap.size = w.heap.size + 1 := by simp
  have kT := fun W a b => rightToks_calls ts hn1 htk p1 c1 W a b
  have kH := fun W a b => rightHols_calls ts hs hn1 hn2 hok (.agg #[.slice p1 ts.length c1, .slice p2 hs.length c2]) W a b
  have hr : pRt ts hs = (decide (ts.length ≤ 32) && (rT ts && rH ts hs)) := rfl
  generalize pRt ts hs = RR at *
  generalize rT ts = RT at *
  generalize rH ts hs = RH at *
  obtain ⟨m, hm⟩ : ∃ n, ts.length = n := ⟨_, rfl⟩
  obtain ⟨n, hn⟩ : ∃ n, hs.length = n := ⟨_, rfl⟩
  have hPX : PM (w.alloc (.cells #[.slice p1 ts.length c1, .slice p2 hs.length c2] 27)) (.agg #[.slice p1 ts.length c1, .slice p2 hs.length c2]) ts hs := ⟨p1, c1, p2, c2, rfl, hT.below b0, hH.below b0⟩
  rw [hm] at hn1 hr kT
  rw [hn, hm] at q0 b0 sX hPX kH ⊢
  obtain ⟨X, hX⟩ : ∃ X, w.alloc (.cells #[.slice p1 m c1, .slice p2 n c2] 27) = X := ⟨_, rfl⟩
  have HX := hide hX
  rw [hX] at q0 b0 sX hPX
  have HP := hide hPX
  have HU := hide (hU.below' b0)
  have HTX := hide (hT.below b0)
  have B0 := hide b0
  have KT := hide kT
  have KH := hide kH
  have HR := hide hr
  have k0 : X.cell? ⟨w.heap.size, 0, none⟩ = some (.slice p1 m c1) := by rw [cell_of_row _ _ _ _ _ _ q0]; rfl
  have QX : Hid (∀ W, Below X.heap.size X W → W.heap[w.heap.size]? = some (.cells #[.slice p1 m c1, .slice p2 n c2] 27 (0, 0))) := hide fun W hW => Below.at hW (by omega) q0
  have PS : (Tryd.prog.info? 27).map (·.size) = some (#[Value.slice p1 m c1, .slice p2 n c2] : Array Value).size := purSz _ _
  clear hT hH hU hok hn hm hX q0 b0 sX hPX kT kH hr htk
  go_enter Tryd.func11, Tryd.ntmps11
  go_upto_region 1 with fail
  change Code.wp _ _ _ _ (w.alloc (.cells #[.slice p1 m c1, .slice p2 n c2] 27))
  rw [unhide HX]
  by_cases h32 : m ≤ 32
  · have d32 : decide (m ≤ 32) = true := by simpa using h32
    have d32' : (m : Int) ≤ 32 := by omega
    have d32'' : decide ((m : Int) ≤ 32) = true := by simpa using d32'
    go_wp2_with fail
    refine (unhide KT _ (unhide HTX) (unhide HU)).mono ?_
    rintro e w1 ⟨rfl, b1⟩
    cases RT with
    | false =>
      have hz := hide (show RR = false by rw [unhide HR]; simp)
      have F := hide ((unhide B0).trans (b1.mono (unhide B0).size))
      clear b1
      go_wp2
      go_ret
      exact ⟨by rw [unhide hz]; rfl, unhide F⟩
    | true =>
      have r1 := unhide QX w1 b1
      have hz := hide (show RR = RH by rw [unhide HR]; simp [h32])
      have BW := hide b1
      clear b1
      go_wp2_with (refine wpList_load_row_gd rfl 27 (.tmp 1) rfl w.heap.size rfl 27 _ (0, 0) _ r1 Tryd.underlying27 rfl PS ?_)
      refine (unhide KH _ ((unhide HP).below (unhide BW)) ((unhide HU).below' (unhide BW))).mono ?_
      rintro e w2 ⟨rfl, b2⟩
      have F := hide ((unhide B0).trans (((unhide BW).trans (b2.mono (unhide BW).size)).mono (unhide B0).size))
      clear b2 r1
      go_wp2
      go_ret
      exact ⟨by rw [unhide hz]; rfl, unhide F⟩
  · have d32 : decide (m ≤ 32) = false := by simpa using h32
    have d32' : ¬ (m : Int) ≤ 32 := by omega
    have d32'' : decide ((m : Int) ≤ 32) = false := by simpa using d32'
    have hz := hide (show RR = false by rw [unhide HR]; simp [h32])
    go_wp2_with (first | go_skip | fail)
    go_ret
    exact ⟨by rw [unhide hz]; rfl, unhide B0⟩
end Go.Proofs.YtjfnaedcdmmigaaDoor

namespace Go.Proofs.YtjfnaedcdmmigaaDoor
open Go.RowKit
set_option linter.unusedSimpArgs false
set_option linter.unusedVariables false

theorem ord_range : ∀ xs ys : List Nat, ordN xs ys = -1 ∨ ordN xs ys = 0 ∨ ordN xs ys = 1
  | [], [] => .inr (.inl rfl)
  | [], _ :: _ => .inl rfl
  | _ :: _, [] => .inr (.inr rfl)
  | x :: xs, y :: ys => by
    unfold ordN
    split
    · exact .inl rfl
    · split
      · exact .inr (.inr rfl)
      · exact ord_range xs ys
theorem ord_swap : ∀ xs ys : List Nat, ordN ys xs = -ordN xs ys
  | [], [] => rfl
  | [], _ :: _ => rfl
  | _ :: _, [] => rfl
  | x :: xs, y :: ys => by
    unfold ordN
    by_cases h1 : x < y
    · rw [if_pos h1, if_neg (by omega), if_pos h1]; rfl
    · by_cases h2 : y < x
      · rw [if_pos h2, if_neg h1, if_pos h2]
      · rw [if_neg h1, if_neg h2, if_neg h2, if_neg h1]; exact ord_swap xs ys
theorem ord_zero : ∀ xs ys : List Nat, ordN xs ys = 0 → xs = ys
  | [], [], _ => rfl
  | [], _ :: _, h => by cases h
  | _ :: _, [], h => by cases h
  | x :: xs, y :: ys, h => by
    unfold ordN at h
    split at h
    · cases h
    · split at h
      · cases h
      · rw [show x = y by omega, ord_zero xs ys h]
theorem ord_refl : ∀ xs : List Nat, ordN xs xs = 0
  | [] => rfl
  | x :: xs => by unfold ordN; rw [if_neg (by omega), if_neg (by omega)]; exact ord_refl xs
theorem ord_trans : ∀ xs ys zs : List Nat, ordN xs ys ≤ 0 → ordN ys zs ≤ 0 → ordN xs zs ≤ 0
  | [], ys, [], _, _ => by unfold ordN; omega
  | [], ys, _ :: _, _, _ => by unfold ordN; omega
  | x :: xs, [], zs, h, _ => by unfold ordN at h; omega
  | x :: xs, y :: ys, [], _, h => by unfold ordN at h; omega
  | x :: xs, y :: ys, z :: zs, h1, h2 => by
    unfold ordN at h1 h2 ⊢
    split at h1
    · split at h2
      · rw [if_pos (by omega)]; omega
      · split at h2
        · omega
        · rw [if_pos (by omega)]; omega
    · split at h1
      · omega
      · split at h2
        · rw [if_pos (by omega)]; omega
        · split at h2
          · omega
          · rw [if_neg (by omega), if_neg (by omega)]; exact ord_trans xs ys zs h1 h2
theorem nums_inj : ∀ (n : Nat) (a b : List UInt8), a.length ≤ n → nums a = nums b → a = b
  | 0, a, b, h, e => by
    have : a = [] := List.eq_nil_of_length_eq_zero (by omega)
    subst this
    cases b with
    | nil => rfl
    | cons c b => rw [nums_nil, nums_cons _ (by simp)] at e; cases e
  | n + 1, a, b, h, e => by
    by_cases ha : a = []
    · subst ha
      cases b with
      | nil => rfl
      | cons c b => rw [nums_nil, nums_cons _ (by simp)] at e; cases e
    · by_cases hb : b = []
      · subst hb
        rw [nums_nil, nums_cons _ ha] at e; cases e
      · rw [nums_cons _ ha, nums_cons _ hb] at e
        injection e with e1 e2
        obtain ⟨h1, h2⟩ := num_tok a b ha hb e1
        have hw := Lib.decodeL_width a
        have hla : 0 < a.length := List.length_pos_iff.2 ha
        have e3 := nums_inj n _ _ (by rw [List.length_drop]; omega) e2
        have e4 : a.take (Lib.decodeL a).2 = b.take (Lib.decodeL b).2 := congrArg (·.2) h1
        rw [← List.take_append_drop (Lib.decodeL a).2 a, ← List.take_append_drop (Lib.decodeL b).2 b, e3, e4]
theorem cmpN_swap (a b : Nat) : cmpN b a = -cmpN a b := by unfold cmpN; repeat' split <;> omega
theorem cmpN_zero (a b : Nat) (h : cmpN a b = 0) : a = b := by unfold cmpN at h; repeat' split at h <;> omega
theorem cmpN_lt (a b : Nat) : cmpN a b < 0 ↔ a < b := by unfold cmpN; repeat' split <;> omega
theorem cmpN_self (a : Nat) : cmpN a a = 0 := by unfold cmpN; simp
theorem ord_lt_trans (xs ys zs : List Nat) (h1 : ordN xs ys < 0) (h2 : ordN ys zs < 0) : ordN xs zs < 0 := by
  have h3 := ord_trans xs ys zs (by omega) (by omega)
  by_cases h : ordN xs zs = 0
  · have e := ord_zero xs zs h
    rw [← e, ord_swap xs ys] at h2
    omega
  · omega
theorem nums_inj' {a b : List UInt8} (h : nums a = nums b) : a = b := nums_inj _ a b (Nat.le_refl _) h
theorem pOrd_swap (o : Nat) (n : List UInt8) (o' : Nat) (n' : List UInt8) : pOrd o' n' o n = -pOrd o n o' n' := by
  unfold pOrd
  rw [cmpN_swap o o']
  by_cases h : cmpN o o' = 0
  · rw [if_pos (by omega), if_pos h]; exact ord_swap _ _
  · rw [if_neg (by omega), if_neg h]
theorem pOrd_zero {o : Nat} {n : List UInt8} {o' : Nat} {n' : List UInt8} (h : pOrd o n o' n' = 0) : o = o' ∧ n = n' := by
  unfold pOrd at h
  by_cases h0 : cmpN o o' = 0
  · rw [if_pos h0] at h; exact ⟨cmpN_zero _ _ h0, nums_inj' (ord_zero _ _ h)⟩
  · rw [if_neg h0] at h; exact absurd h h0
theorem pOrd_self (o : Nat) (n : List UInt8) : pOrd o n o n = 0 := by unfold pOrd; rw [if_pos (cmpN_self o)]; exact ord_refl _
theorem pOrd_lt_trans {o1 : Nat} {n1 : List UInt8} {o2 : Nat} {n2 : List UInt8} {o3 : Nat} {n3 : List UInt8} (h1 : pOrd o1 n1 o2 n2 < 0) (h2 : pOrd o2 n2 o3 n3 < 0) : pOrd o1 n1 o3 n3 < 0 := by
  unfold pOrd at *
  by_cases a : cmpN o1 o2 = 0
  · have e := cmpN_zero _ _ a
    subst e
    rw [if_pos a] at h1
    by_cases b : cmpN o1 o3 = 0
    · rw [if_pos b] at h2 ⊢; exact ord_lt_trans _ _ _ h1 h2
    · rw [if_neg b] at h2 ⊢; exact h2
  · rw [if_neg a] at h1
    have l1 := (cmpN_lt _ _).1 h1
    by_cases b : cmpN o2 o3 = 0
    · have e := cmpN_zero _ _ b
      subst e
      rw [if_neg a]; exact h1
    · rw [if_neg b] at h2
      have l2 := (cmpN_lt _ _).1 h2
      have l3 := (cmpN_lt o1 o3).2 (by omega)
      rw [if_neg (by omega)]; exact l3
theorem hOrd_swap (o : Nat) (n a : List UInt8) (o' : Nat) (n' a' : List UInt8) : hOrd o' n' a' o n a = -hOrd o n a o' n' a' := by
  unfold hOrd
  rw [pOrd_swap o n o' n']
  by_cases h : pOrd o n o' n' = 0
  · rw [if_pos (by omega), if_pos h]; exact ord_swap _ _
  · rw [if_neg (by omega), if_neg h]
theorem hOrd_zero {o : Nat} {n a : List UInt8} {o' : Nat} {n' a' : List UInt8} (h : hOrd o n a o' n' a' = 0) : o = o' ∧ n = n' ∧ a = a' := by
  unfold hOrd at h
  by_cases h0 : pOrd o n o' n' = 0
  · rw [if_pos h0] at h; exact ⟨(pOrd_zero h0).1, (pOrd_zero h0).2, nums_inj' (ord_zero _ _ h)⟩
  · rw [if_neg h0] at h; exact absurd h h0
theorem hOrd_self (o : Nat) (n a : List UInt8) : hOrd o n a o n a = 0 := by unfold hOrd; rw [if_pos (pOrd_self o n)]; exact ord_refl _
theorem hOrd_lt_trans {o1 : Nat} {n1 a1 : List UInt8} {o2 : Nat} {n2 a2 : List UInt8} {o3 : Nat} {n3 a3 : List UInt8} (h1 : hOrd o1 n1 a1 o2 n2 a2 < 0) (h2 : hOrd o2 n2 a2 o3 n3 a3 < 0) : hOrd o1 n1 a1 o3 n3 a3 < 0 := by
  unfold hOrd at *
  by_cases p : pOrd o1 n1 o2 n2 = 0
  · obtain ⟨e1, e2⟩ := pOrd_zero p
    subst e1; subst e2
    rw [if_pos p] at h1
    by_cases b : pOrd o1 n1 o3 n3 = 0
    · rw [if_pos b] at h2 ⊢; exact ord_lt_trans _ _ _ h1 h2
    · rw [if_neg b] at h2 ⊢; exact h2
  · rw [if_neg p] at h1
    by_cases b : pOrd o2 n2 o3 n3 = 0
    · obtain ⟨e1, e2⟩ := pOrd_zero b
      subst e1; subst e2
      rw [if_neg p]; exact h1
    · rw [if_neg b] at h2
      have l3 := pOrd_lt_trans h1 h2
      rw [if_neg (by omega)]; exact l3
end Go.Proofs.YtjfnaedcdmmigaaDoor
