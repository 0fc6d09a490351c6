/-
  LAYER 14's OWN: Few, short.
-/
/-
  THERE AND BACK, PLAIN: a Lock and its Unlock, a Mint and its Burn.
-/
/-
  slices.Insert AT TOKENS.
-/
/-
  Enlist.
-/
/-
  THE DOCUMENT's Same OF TWO PURSES THAT ARE THE SAME.
-/
/-
  LAYER 14's awake; the closure of PurseBack.
-/
import Derived.Test.YtjfnaedcdmmigaaDoorJ3
import Derived.Test.YtjfnaedcdmmigaaDoorJ4
import Derived.Test.YtjfnaedcdmmigaaDoorJ5
import Derived.Test.YtjfnaedcdmmigaaDoorJ6
import Derived.Deep.MidRow
namespace Go.Proofs.YtjfnaedcdmmigaaDoor
open Go Go.RowKit
set_option linter.unusedSimpArgs false
set_option linter.unusedVariables false

def actC (d : Int) (o : Nat) (tk a b : List UInt8) (n : Nat) : Array Value := #[.int .i64 d, .int .u32 (o : Int), .string (str tk), .string (str a), .string (str b), .int .u64 (n : Int)]
set_option maxHeartbeats 1000000 in
set_option maxRecDepth 100000 in
theorem short_calls (d : Int) (o : Nat) (tk a b : List UInt8) (n : Nat) (w : World) :
    Calls Tryd.prog 8 #[.agg (actC d o tk a b n)] w fun e w' => e = .returned (.bool (decide (tk.length ≤ 200) && (decide (a.length ≤ 200) && decide (b.length ≤ 200)))) ∧ Below w.heap.size w w' := by
  have q0 := al1 w (.cells (actC d o tk a b n) 31)
  have b0 : Below w.heap.size w (w.alloc (.cells (actC d o tk a b n) 31)) := (Below.refl _ _).alloc (Nat.le_refl _) _
  obtain ⟨X, hX⟩ : ∃ X, w.alloc (.cells (actC d o tk a b n) 31) = X := ⟨_, rfl⟩
  have HX := hide hX
  rw [hX] at q0 b0
  have k2 : X.cell? ⟨w.heap.size, 2, none⟩ = some (.string (str tk)) := by rw [cell_of_row _ _ _ _ _ _ q0]; rfl
  have k3 : X.cell? ⟨w.heap.size, 3, none⟩ = some (.string (str a)) := by rw [cell_of_row _ _ _ _ _ _ q0]; rfl
  have k4 : X.cell? ⟨w.heap.size, 4, none⟩ = some (.string (str b)) := by rw [cell_of_row _ _ _ _ _ _ q0]; rfl
  have z2 := str_size tk
  have z3 := str_size a
  have z4 := str_size b
  have B0 := hide b0
  clear hX q0 b0
  go_enter Tryd.func8, Tryd.ntmps8
  go_upto_region 1 with fail
  change Code.wp _ _ _ _ (w.alloc (.cells (actC d o tk a b n) 31))
  rw [unhide HX]
  by_cases h1 : tk.length ≤ 200
  · have d1 : decide (tk.length ≤ 200) = true := by simpa using h1
    have e1 : decide ((tk.length : Int) ≤ 200) = true := by simp; omega
    by_cases h2 : a.length ≤ 200
    · have d2 : decide (a.length ≤ 200) = true := by simpa using h2
      have e2 : decide ((a.length : Int) ≤ 200) = true := by simp; omega
      by_cases h3 : b.length ≤ 200
      · have d3 : decide (b.length ≤ 200) = true := by simpa using h3
        have e3 : decide ((b.length : Int) ≤ 200) = true := by simp; omega
        go_wp2
        go_ret
        exact ⟨by simp [h1, h2, h3], unhide B0⟩
      · have d3 : decide (b.length ≤ 200) = false := by simpa using h3
        have e3 : decide ((b.length : Int) ≤ 200) = false := by simp; omega
        go_wp2
        go_ret
        exact ⟨by simp [h1, h2, h3], unhide B0⟩
    · have d2 : decide (a.length ≤ 200) = false := by simpa using h2
      have e2 : decide ((a.length : Int) ≤ 200) = false := by simp; omega
      go_wp2_with (first | go_skip | fail)
      go_ret
      exact ⟨by simp [h1, h2], unhide B0⟩
  · have d1 : decide (tk.length ≤ 200) = false := by simpa using h1
    have e1 : decide ((tk.length : Int) ≤ 200) = false := by simp; omega
    go_wp2_with (first | go_skip | fail)
    go_ret
    exact ⟨by simp [h1], unhide B0⟩
theorem wpList_store_row_tf {P : Program} {ops : Array Oper} {rest : List Oper} {o : Oper} {a : Act} {w : World} {Q : Exit → Act → World → Prop} (hgd : o.guard = none) (ty : TypeId) (x y : Operand) (ho : o.op = .store ty x y)
    (g : Nat) (cells : Array Value) (hx : a.eval x = .pointer (some ⟨g, 0, none⟩)) (hy : a.eval y = .agg cells)
    (t : TypeId) (old : Array Value) (hg : w.heap[g]? = some (.cells old t (0, 0))) (hi : (P.info? ty).map (·.size) = some cells.size)
    (hold : old.size = cells.size) (h1 : cells.all (·.oneCell') = true) (V : World) (hV : w.setRow g cells = V)
    (h : wpList P ops Q rest (a.put o.dst undef) V) : wpList P ops Q (o :: rest) a w := by
  subst hV
  exact wpList_store_row hgd ty x y ho g cells hx hy t old hg hi hold h1 h
/-- Few, of what may be gone through here. -/
def fewSaid (p : Prop) (e : Ending) : Prop := ∃ b : Bool, e = .returned (.bool b) ∧ (b = true → p)
def fTok (t : Tkn) : Prop := t.n.length ≤ 200
def fHol (h : Hol) : Prop := h.n.length ≤ 200 ∧ h.w.length ≤ 200
def pFew (ts : List Tkn) (hs : List Hol) : Prop := (ts.length ≤ 60 ∧ hs.length ≤ 100) ∧ (∀ i t, i < ts.length → ts[i]? = some t → fTok t) ∧ ∀ i h, i < hs.length → hs[i]? = some h → fHol h
set_option maxHeartbeats 4000000 in
set_option maxRecDepth 100000 in
theorem few_calls (ts : List Tkn) (hs : List Hol) (v : Value) (w : World) (hP : PM w v ts hs) :
    Calls Tryd.prog 12 #[v] w fun e w' => fewSaid (pFew ts hs) e ∧ Below w.heap.size w w' := by
  obtain ⟨p1, c1, p2, c2, rfl, hT, hH⟩ := hP
  have q0 := al1 w (.cells #[.slice p1 ts.length c1, .slice p2 hs.length c2] 27)
  have b0 : Below w.heap.size w (w.alloc (.cells #[.slice p1 ts.length c1, .slice p2 hs.length c2] 27)) := (Below.refl _ _).alloc (Nat.le_refl _) _
  have sX : (w.alloc (.cells #[.slice p1 ts.length c1, .slice p2 hs.length c2] 27)).heap.size = w.heap.size + 1 := by simp
  have hF := hide (show pFew ts hs ↔ ((ts.length ≤ 60 ∧ hs.length ≤ 100) ∧ (∀ i t, i < ts.length → ts[i]? = some t → fTok t) ∧ ∀ i h, i < hs.length → hs[i]? = some h → fHol h) from Iff.rfl)
  generalize pFew ts hs = PF at *
  obtain ⟨m, hm⟩ : ∃ n, ts.length = n := ⟨_, rfl⟩
  obtain ⟨n, hn⟩ : ∃ n, hs.length = n := ⟨_, rfl⟩
  rw [hn, hm] at hF q0 b0 sX ⊢
  obtain ⟨X, hX⟩ : ∃ X, w.alloc (.cells #[.slice p1 m c1, .slice p2 n c2] 27) = X := ⟨_, rfl⟩
  have HX := hide hX
  rw [hX] at q0 b0 sX
  have HN := hide hn
  have HM := hide hm
  have HT := hide (hT.below b0)
  have HH := hide (hH.below b0)
  have B0 := hide b0
  have SX := hide sX
  have CL : Hid (∀ W, Below X.heap.size X W → W.cell? ⟨w.heap.size, 0, none⟩ = some (.slice p1 m c1) ∧ W.cell? ⟨w.heap.size, 1, none⟩ = some (.slice p2 n c2)) := hide fun W hW => by
    have a := Below.at hW (by omega) q0
    exact ⟨by rw [cell_of_row _ _ _ _ _ _ a]; rfl, by rw [cell_of_row _ _ _ _ _ _ a]; rfl⟩
  have k00 := (unhide CL X (Below.refl _ _)).1
  have k01 := (unhide CL X (Below.refl _ _)).2
  clear hT hH hn hm hX q0 b0 sX
  go_enter Tryd.func12, Tryd.ntmps12
  go_upto_region 1 with fail
  change Code.wp _ _ _ _ (w.alloc (.cells #[.slice p1 m c1, .slice p2 n c2] 27))
  rw [unhide HX]
  by_cases hm6 : 60 < m
  · have d1 : decide (60 < m) = true := by simpa using hm6
    have d1' : decide ((60 : Int) < (m : Int)) = true := by simp; omega
    go_wp2_with (first | go_skip | fail)
    go_ret
    exact ⟨⟨false, rfl, by simp⟩, unhide B0⟩
  have d1 : decide (60 < m) = false := by simpa using hm6
  have d1' : decide ((60 : Int) < (m : Int)) = false := by simp; omega
  by_cases hn6 : 100 < n
  · have d2 : decide (100 < n) = true := by simpa using hn6
    have d2' : decide ((100 : Int) < (n : Int)) = true := by simp; omega
    go_wp2
    go_ret
    exact ⟨⟨false, rfl, by simp⟩, unhide B0⟩
  have d2 : decide (100 < n) = false := by simpa using hn6
  have d2' : decide ((100 : Int) < (n : Int)) = false := by simp; omega
  go_wp2
  clear k00 k01 d1 d1' d2 d2'
  go_loopw [4, 20] (fun _ i wr => ∃ j : Nat, j ≤ m ∧ i = .int .i64 (j : Int) ∧ Below X.heap.size X wr ∧ Hid (∀ i t, i < j → ts[i]? = some t → fTok t)) (fun _ i _ => m - (intOf i).toNat)
  case atStart => exact ⟨0, by omega, rfl, Below.refl _ _, hide fun i t hi => absurd hi (Nat.not_lt_zero _)⟩
  case round =>
    obtain ⟨j, hj, rfl, hb, hyes⟩ := hrel
    by_cases hlt : j < m
    · have hd : decide (j < m) = true := by simpa using hlt
      have bk : (j : Int) < (m : Int) := by omega
      obtain ⟨y, hy⟩ : ∃ y, ts[j]? = some y := ⟨_, List.getElem?_eq_getElem (by rw [unhide HM]; exact hlt)⟩
      obtain ⟨b, off, rfl, hz1, hr1⟩ := EL.row tokC_len (by decide) ((unhide HT).below hb) hy
      have hsz : (Tryd.prog.info? 38).map (·.size) = some (tokC y).length := tokSz y
      have hon := tokOne y
      have hsr : ((tokC zTok).toArray).size = ((tokC y).toArray).size := rfl
      have p1' := al1 wr (.cells (tokC zTok).toArray 38)
      obtain ⟨V, hV⟩ : ∃ V, (wr.alloc (.cells (tokC zTok).toArray 38)).setRow wr.heap.size (tokC y).toArray = V := ⟨_, rfl⟩
      have HV := hide hV
      have vG : V.heap[wr.heap.size]? = some (.cells (tokC y).toArray 38 (0, 0)) := by rw [← hV]; exact setRow_heap _ _ _ _ _ _ p1'
      have vb : Below wr.heap.size wr V := by rw [← hV]; exact below_setRow ((Below.refl _ _).alloc (Nat.le_refl _) _) (Nat.le_refl _) _
      have VB := hide (hb.trans (vb.mono hb.size))
      have k1 : V.cell? ⟨wr.heap.size, 1, none⟩ = some (.string (str y.n)) := by rw [cell_of_row _ _ _ _ _ _ vG]; rfl
      have z1 := str_size y.n
      have hstep : fTok y → Hid (∀ i t, i < j + 1 → ts[i]? = some t → fTok t) := fun h => hide fun i t hi ht => by
        by_cases he : i = j
        · rw [he] at ht; rw [hy] at ht; cases ht; exact h
        · exact unhide hyes i t (by omega) ht
      have HS := hide hstep
      obtain ⟨C, hC⟩ : ∃ C, tokC y = C := ⟨_, rfl⟩
      rw [hC] at hr1 hsz hon hsr
      have HVC : Hid ((wr.alloc (.cells (tokC zTok).toArray 38)).setRow wr.heap.size C.toArray = V) := by rw [← hC]; exact HV
      clear hC hV HV vb hb hyes hy vG hstep
      by_cases h2 : 200 < y.n.length
      · have e1 : decide (200 < y.n.length) = true := by simpa using h2
        have e2 : decide ((200 : Int) < (y.n.length : Int)) = true := by simp; omega
        have F := hide ((unhide B0).trans ((unhide VB).mono (unhide B0).size))
        go_wp2_with (first
          | (refine wpList_load_mid rfl 38 (.tmp 22) rfl b (off + j * 7) rfl C _ hr1 Tryd.underlying38 rfl hsz ?_)
          | (refine wpList_store_row_tf rfl 38 (.tmp 4) (.tmp 23) rfl (wr.heap.size) C.toArray rfl rfl 38 _ p1' hsz hsr hon V (unhide HVC) ?_))
        go_ret
        exact ⟨⟨false, rfl, by simp⟩, unhide F⟩
      · have e1 : decide (200 < y.n.length) = false := by simpa using h2
        have e2 : decide ((200 : Int) < (y.n.length : Int)) = false := by simp; omega
        have HYY := hide (unhide HS (by show y.n.length ≤ 200; omega))
        go_wp2_with (first
          | (refine wpList_load_mid rfl 38 (.tmp 22) rfl b (off + j * 7) rfl C _ hr1 Tryd.underlying38 rfl hsz ?_)
          | (refine wpList_store_row_tf rfl 38 (.tmp 4) (.tmp 23) rfl (wr.heap.size) C.toArray rfl rfl 38 _ p1' hsz hsr hon V (unhide HVC) ?_))
        go_roundw
        case rel => exact ⟨j + 1, by omega, by go_num, unhide VB, unhide HYY⟩
        case measure => simp [intOf]; omega
    · have hd : decide (j < m) = false := by simpa using hlt
      have k01 := (unhide CL wr hb).2
      have HTA : Hid (∀ i t, i < m → ts[i]? = some t → fTok t) := hide fun i t hi ht => unhide hyes i t (by omega) ht
      have BX := hide hb
      clear hlt hb hyes
      go_wp2
      clear k01 hd
      go_loopw [6, 32] (fun _ i wr => ∃ j : Nat, j ≤ n ∧ i = .int .i64 (j : Int) ∧ Below X.heap.size X wr ∧ Hid (∀ i t, i < j → hs[i]? = some t → fHol t)) (fun _ i _ => n - (intOf i).toNat)
      case atStart => exact ⟨0, by omega, rfl, unhide BX, hide fun i t hi => absurd hi (Nat.not_lt_zero _)⟩
      case round =>
        obtain ⟨j2, hj2, rfl, hb, hyes⟩ := hrel
        by_cases hlt : j2 < n
        · have hd : decide (j2 < n) = true := by simpa using hlt
          have bk : (j2 : Int) < (n : Int) := by omega
          obtain ⟨y, hy⟩ : ∃ y, hs[j2]? = some y := ⟨_, List.getElem?_eq_getElem (by rw [unhide HN]; exact hlt)⟩
          obtain ⟨b, off, rfl, hz1, hr1⟩ := EL.row holC_len (by decide) ((unhide HH).below hb) hy
          have hsz : (Tryd.prog.info? 75).map (·.size) = some (holC y).length := sizeH y
          have hon : ((holC y).toArray).all (·.oneCell') = true := by simp [holC, Value.oneCell']
          have hsr : ((holC ⟨0, [], [], 0⟩).toArray).size = ((holC y).toArray).size := rfl
          have p1' := al1 wr (.cells (holC ⟨0, [], [], 0⟩).toArray 75)
          obtain ⟨V, hV⟩ : ∃ V, (wr.alloc (.cells (holC ⟨0, [], [], 0⟩).toArray 75)).setRow wr.heap.size (holC y).toArray = V := ⟨_, rfl⟩
          have HV := hide hV
          have vG : V.heap[wr.heap.size]? = some (.cells (holC y).toArray 75 (0, 0)) := by rw [← hV]; exact setRow_heap _ _ _ _ _ _ p1'
          have vb : Below wr.heap.size wr V := by rw [← hV]; exact below_setRow ((Below.refl _ _).alloc (Nat.le_refl _) _) (Nat.le_refl _) _
          have VB := hide (hb.trans (vb.mono hb.size))
          have k1 : V.cell? ⟨wr.heap.size, 1, none⟩ = some (.string (str y.n)) := by rw [cell_of_row _ _ _ _ _ _ vG]; rfl
          have k2 : V.cell? ⟨wr.heap.size, 2, none⟩ = some (.string (str y.w)) := by rw [cell_of_row _ _ _ _ _ _ vG]; rfl
          have z1 := str_size y.n
          have z2 := str_size y.w
          have hstep : fHol y → Hid (∀ i t, i < j2 + 1 → hs[i]? = some t → fHol t) := fun h => hide fun i t hi ht => by
            by_cases he : i = j2
            · rw [he] at ht; rw [hy] at ht; cases ht; exact h
            · exact unhide hyes i t (by omega) ht
          have HS := hide hstep
          obtain ⟨C, hC⟩ : ∃ C, holC y = C := ⟨_, rfl⟩
          rw [hC] at hr1 hsz hon hsr
          have HVC : Hid ((wr.alloc (.cells (holC ⟨0, [], [], 0⟩).toArray 75)).setRow wr.heap.size C.toArray = V) := by rw [← hC]; exact HV
          have F := hide ((unhide B0).trans ((unhide VB).mono (unhide B0).size))
          clear hC hV HV vb hb hyes hy vG hstep
          by_cases h2 : 200 < y.n.length
          · have e1 : decide (200 < y.n.length) = true := by simpa using h2
            have e2 : decide ((200 : Int) < (y.n.length : Int)) = true := by simp; omega
            go_wp2_with (first
              | go_skip
              | (refine wpList_load_mid rfl 75 (.tmp 34) rfl b (off + j2 * 4) rfl C _ hr1 Tryd.underlying75 rfl hsz ?_)
              | (refine wpList_store_row_tf rfl 75 (.tmp 6) (.tmp 35) rfl (wr.heap.size) C.toArray rfl rfl 75 _ p1' hsz hsr hon V (unhide HVC) ?_))
            go_ret
            exact ⟨⟨false, rfl, by simp⟩, unhide F⟩
          · have e1 : decide (200 < y.n.length) = false := by simpa using h2
            have e2 : decide ((200 : Int) < (y.n.length : Int)) = false := by simp; omega
            by_cases h3 : 200 < y.w.length
            · have e3 : decide (200 < y.w.length) = true := by simpa using h3
              have e4 : decide ((200 : Int) < (y.w.length : Int)) = true := by simp; omega
              go_wp2_with (first
                | go_skip
                | (refine wpList_load_mid rfl 75 (.tmp 34) rfl b (off + j2 * 4) rfl C _ hr1 Tryd.underlying75 rfl hsz ?_)
                | (refine wpList_store_row_tf rfl 75 (.tmp 6) (.tmp 35) rfl (wr.heap.size) C.toArray rfl rfl 75 _ p1' hsz hsr hon V (unhide HVC) ?_))
              go_ret
              exact ⟨⟨false, rfl, by simp⟩, unhide F⟩
            · have e3 : decide (200 < y.w.length) = false := by simpa using h3
              have e4 : decide ((200 : Int) < (y.w.length : Int)) = false := by simp; omega
              have HYY := hide (unhide HS ⟨by omega, by omega⟩)
              go_wp2_with (first
                | go_skip
                | (refine wpList_load_mid rfl 75 (.tmp 34) rfl b (off + j2 * 4) rfl C _ hr1 Tryd.underlying75 rfl hsz ?_)
                | (refine wpList_store_row_tf rfl 75 (.tmp 6) (.tmp 35) rfl (wr.heap.size) C.toArray rfl rfl 75 _ p1' hsz hsr hon V (unhide HVC) ?_))
              go_roundw
              case rel => exact ⟨j2 + 1, by omega, by go_num, unhide VB, unhide HYY⟩
              case measure => simp [intOf]; omega
        · have hd : decide (j2 < n) = false := by simpa using hlt
          have F := hide ((unhide B0).trans (hb.mono (unhide B0).size))
          have R := hide ((unhide hF).2 ⟨⟨by omega, by omega⟩, unhide HTA, fun i t hi ht => unhide hyes i t (by omega) ht⟩)
          clear hb hyes
          go_wp2
          go_ret
          exact ⟨⟨true, rfl, fun _ => unhide R⟩, unhide F⟩
end Go.Proofs.YtjfnaedcdmmigaaDoor

namespace Go.Proofs.YtjfnaedcdmmigaaDoor
open Go Go.RowKit
set_option linter.unusedSimpArgs false
set_option linter.unusedVariables false

theorem mem_modify {α : Type} (f : α → α) {P : α → Prop} (hf : ∀ x, P x → P (f x)) : ∀ (xs : List α) (j : Nat), (∀ x ∈ xs, P x) → ∀ x ∈ xs.modify j f, P x
  | [], j, h => by cases j <;> exact h
  | y :: xs, 0, h => fun x hx => by
    rw [List.modify_zero_cons] at hx
    rcases List.mem_cons.1 hx with rfl | hx
    · exact hf _ (h y (by simp))
    · exact h x (by simp [hx])
  | y :: xs, j + 1, h => fun x hx => by
    rw [List.modify_succ_cons] at hx
    rcases List.mem_cons.1 hx with rfl | hx
    · exact h _ (by simp)
    · exact mem_modify f hf xs j (fun z hz => h z (by simp [hz])) x hx
theorem mem_insert {α : Type} (y : α) {P : α → Prop} (hy : P y) : ∀ (xs : List α) (j : Nat), (∀ x ∈ xs, P x) → ∀ x ∈ xs.insertIdx j y, P x
  | xs, 0, h => fun x hx => by
    rw [List.insertIdx_zero] at hx
    rcases List.mem_cons.1 hx with rfl | hx
    · exact hy
    · exact h x hx
  | [], j + 1, h => fun x hx => by simp at hx
  | z :: xs, j + 1, h => fun x hx => by
    rw [List.insertIdx_succ_cons] at hx
    rcases List.mem_cons.1 hx with rfl | hx
    · exact h _ (by simp)
    · exact mem_insert y hy xs j (fun z hz => h z (by simp [hz])) x hx
theorem pWith_ok (hs : List Hol) (o : Nat) (n a : List UInt8) (u : Nat) (hok : ∀ h ∈ hs, h.ok) (ho : o < 4294967296) (hn : n.length ≤ 1000) (ha : a.length ≤ 1000) (hu : u < 18446744073709551616) : ∀ h ∈ pWith hs o n a u, h.ok := by
  unfold pWith
  split
  · split
    · exact mem_modify (P := Hol.ok) (fun h : Hol => { h with a := u }) (fun x hx => ⟨hx.1, hx.2.1, hx.2.2.1, hu⟩) hs _ hok
    · exact fun x hx => hok x (List.mem_of_mem_eraseIdx hx)
  · split
    · exact mem_insert (P := Hol.ok) _ ⟨ho, hn, ha, hu⟩ hs _ hok
    · exact hok
theorem pSetT_ok (ts : List Tkn) (t : Tkn) (hok : ∀ x ∈ ts, x.ok) (ht : t.ok) : ∀ x ∈ pSetT ts t, x.ok := mem_modify (P := Tkn.ok) _ (fun _ _ => ht) ts _ hok
theorem pSetT_len (ts : List Tkn) (t : Tkn) : (pSetT ts t).length = ts.length := List.length_modify _ _ _
theorem find_modify {α : Type} (p : α → Bool) (t : α) (ht : p t = true) : ∀ (xs : List α), (∃ x ∈ xs, p x = true) → (xs.modify (xs.findIdx p) (fun _ => t)).find? p = some t
  | [], h => by obtain ⟨x, hx, _⟩ := h; simp at hx
  | x :: xs, h => by
    cases hp : p x with
    | true => rw [List.findIdx_cons, hp]; simp [List.modify_zero_cons, ht]
    | false =>
      rw [List.findIdx_cons, hp]
      simp only [cond_false, List.modify_succ_cons, List.find?_cons, hp]
      refine find_modify p t ht xs ?_
      obtain ⟨y, hy, hpy⟩ := h
      rcases List.mem_cons.1 hy with rfl | hy
      · rw [hp] at hpy; cases hpy
      · exact ⟨y, hy, hpy⟩
theorem pKn_key {ts : List Tkn} {o : Nat} {n : List UInt8} {t : Tkn} (h : pKn ts o n = some t) : t.o = o ∧ t.n = n := by
  have := List.find?_some h
  simpa [isT] using this
theorem pKn_set {ts : List Tkn} {o : Nat} {n : List UInt8} {t : Tkn} (h : pKn ts o n = some t) (u : Tkn) (hu : u.o = o ∧ u.n = n) : pKn (pSetT ts u) o n = some u := by
  unfold pKn pSetT
  rw [hu.1, hu.2]
  exact find_modify (isT o n) u (by simp [isT, hu.1, hu.2]) ts ⟨t, List.mem_of_find?_eq_some h, List.find?_some h⟩
/-- What a Lock did. -/
theorem lock_did {ts : List Tkn} {hs : List Hol} {o : Nat} {n a : List UInt8} {k : Nat} (h : (pLock ts hs o n a k).2.2 = 0) : ∃ t, pKn ts o n = some t ∧ k ≤ pHe hs o n a ∧ t.lk + k < 18446744073709551616 ∧ pLock ts hs o n a k = (pSetT ts { t with lk := t.lk + k }, pWith hs o n a (pHe hs o n a - k), 0) := by
  unfold pLock at h ⊢
  cases hk : pKn ts o n with
  | none => rw [hk] at h; simp at h
  | some t =>
    rw [hk] at h
    simp only at h ⊢
    unfold pLess at h ⊢
    by_cases h1 : pHe hs o n a < k
    · simp only [if_pos h1] at h; simp at h
    · simp only [if_neg h1] at h ⊢
      by_cases h2 : t.lk + k < 18446744073709551616
      · exact ⟨t, rfl, by omega, h2, by simp [h2]⟩
      · simp [h2] at h
/-- What was locked is unlocked. -/
theorem lock_back {ts : List Tkn} {hs : List Hol} (hT : rT ts = true) (hH : rH ts hs = true) (hok : ∀ h ∈ hs, h.ok) {o : Nat} {n a : List UInt8} {k : Nat} {t : Tkn} (hk : pKn ts o n = some t) (hle : k ≤ pHe hs o n a) (hb : pHe hs o n a < 18446744073709551616) :
    ∀ U, U = pUnlock (pSetT ts { t with lk := t.lk + k }) (pWith hs o n a (pHe hs o n a - k)) o n a k → (U.2.2 = 0 ∧ U.2.1 = hs) ∨ U.2.2 = 10 ∨ U.2.2 = 7 := by
  intro U hU
  obtain ⟨k1, k2⟩ := pKn_key hk
  have hul := (rT_unl hT t (List.mem_of_find?_eq_some hk)).1
  obtain ⟨tO, tn, tc, tl, tu, tm, tb⟩ := t
  simp only at k1 k2 hul hU
  subst k1; subst k2
  have hkn := pKn_set hk ⟨tO, tn, tc, tl + k, tu, tm, tb⟩ ⟨rfl, rfl⟩
  obtain ⟨b1, b2⟩ := back_less hH tO tn a k hle
  unfold pUnlock at hU
  rw [hkn] at hU
  simp only at hU
  rw [if_neg (by omega)] at hU
  by_cases h1 : tu + k < 18446744073709551616
  · rw [if_pos h1] at hU
    unfold pGB pGrant at hU
    simp only [hkn, Option.isSome_some, if_true, b2] at hU
    rw [show pHe hs tO tn a - k + k = pHe hs tO tn a by omega, if_pos hb, b1] at hU
    cases hr : pRight a with
    | true => rw [hr] at hU; simp at hU; subst hU; exact .inl ⟨rfl, rfl⟩
    | false => rw [hr] at hU; simp at hU; subst hU; exact .inr (.inr rfl)
  · rw [if_neg h1] at hU
    subst hU
    exact .inr (.inl rfl)
/-- What a Mint did. -/
theorem mint_did {ts : List Tkn} {hs : List Hol} {o : Nat} {n a : List UInt8} {k : Nat} (h : (pMint ts hs o n a k).2.2 = 0) : ∃ t, pKn ts o n = some t ∧ t.mi + k < 18446744073709551616 ∧ pHe hs o n a + k < 18446744073709551616 ∧ pMint ts hs o n a k = (pSetT ts { t with mi := t.mi + k }, pWith hs o n a (pHe hs o n a + k), 0) := by
  unfold pMint at h ⊢
  cases hk : pKn ts o n with
  | none => rw [hk] at h; simp at h
  | some t =>
    obtain ⟨k1, k2⟩ := pKn_key hk
    obtain ⟨tO, tn, tc, tl, tu, tm, tb⟩ := t
    simp only at k1 k2
    subst k1; subst k2
    rw [hk] at h
    simp only at h ⊢
    by_cases h1 : tm + k < 18446744073709551616
    · rw [if_pos h1] at h ⊢
      by_cases h2 : tm - tb + k ≤ tc
      · rw [if_pos h2] at h ⊢
        unfold pGB pGrant at h ⊢
        simp only [hk, Option.isSome_some, if_true] at h ⊢
        cases hr : pRight a with
        | false => rw [hr] at h; simp at h
        | true =>
          rw [hr] at h
          by_cases h3 : pHe hs tO tn a + k < 18446744073709551616
          · exact ⟨_, rfl, h1, h3, by simp [h3]⟩
          · simp [h3] at h
      · rw [if_neg h2] at h; simp at h
    · rw [if_neg h1] at h; simp at h
/-- What was minted is burned. -/
theorem mint_back {ts : List Tkn} {hs : List Hol} (hH : rH ts hs = true) {o : Nat} {n a : List UInt8} {k : Nat} {t : Tkn} (hk : pKn ts o n = some t) :
    ∀ U, U = pBurn (pSetT ts { t with mi := t.mi + k }) (pWith hs o n a (pHe hs o n a + k)) o n a k → (U.2.2 = 0 ∧ U.2.1 = hs) ∨ U.2.2 = 10 := by
  intro U hU
  obtain ⟨k1, k2⟩ := pKn_key hk
  have hkn := pKn_set hk { t with mi := t.mi + k } ⟨k1, k2⟩
  have b1 := back_more hs o n a k (rH_some hH)
  have b2 : pHe (pWith hs o n a (pHe hs o n a + k)) o n a = pHe hs o n a + k := by
    by_cases h0 : pHe hs o n a + k = 0
    · rw [show pHe hs o n a + k = 0 by omega]
      have h1 : pHe hs o n a = 0 := by omega
      have := b1
      rw [h0, h1] at this
      by_cases hj : hs.findIdx (isH o n a) < hs.length
      · obtain ⟨x, hx⟩ : ∃ x, hs[hs.findIdx (isH o n a)]? = some x := ⟨_, List.getElem?_eq_getElem hj⟩
        have hv := pHe_at hs o n a x hx
        exact absurd (hv.symm.trans h1) (rH_some hH x (List.mem_of_getElem? hx))
      · have : pWith hs o n a 0 = hs := by unfold pWith; rw [if_neg hj, if_neg (by omega)]
        rw [this, h1]
    · exact pHe_with hs o n a _ (by omega)
  unfold pBurn at hU
  rw [hkn] at hU
  simp only at hU
  unfold pLess at hU
  rw [b2, if_neg (show ¬ pHe hs o n a + k < k by omega), show pHe hs o n a + k - k = pHe hs o n a by omega, b1] at hU
  simp only [if_true] at hU
  by_cases h1 : t.bu + k < 18446744073709551616
  · rw [if_pos h1] at hU; subst hU; exact .inl ⟨rfl, rfl⟩
  · rw [if_neg h1] at hU; subst hU; exact .inr rfl
end Go.Proofs.YtjfnaedcdmmigaaDoor

namespace Go.Proofs.YtjfnaedcdmmigaaDoor
open Go Go.RowKit
set_option linter.unusedSimpArgs false
set_option linter.unusedVariables false

theorem insInfoT : ∃ i z, Tryd.prog.info? 38 = some i ∧ i.zero = some z ∧ i.size = 7 ∧ i.bytes = 64 ∧ z.cells.size = 7 := rowInfoV infoT
set_option maxHeartbeats 4000000 in
set_option maxRecDepth 1000000 in
theorem insEndT (n : Nat) (hn : n ≤ 1000) (L X : List Value) (hX : X.length = 7) (h1X : ∀ u ∈ X, u.oneCell' = true) (v : Value) (B h : Nat) (w : World) (hB : B ≤ w.heap.size) (hown : w.ownsRow B 38 7 v n L) (hh : w.heap[h]? = some (.cells X.toArray 38 (0, 0))) :
    Calls Tryd.prog 54 #[v, .int .i64 (n : Int), .slice (some ⟨h, 0, none⟩) 1 1] w fun e w' => (∃ v', e = .returned v' ∧ w'.ownsRow B 38 7 v' (n + 1) (L ++ X)) ∧ (∀ k, k < w.heap.size → some k ≠ v.ownBlock → w'.heap[k]? = w.heap[k]?) ∧ w.heap.size ≤ w'.heap.size ∧ Below B w w' := by
  have hVL : VL w (some ⟨h, 0, none⟩) X := fun _ => ⟨h, 0, rfl, (Array.getElem?_eq_some_iff.1 hh).1, fun i hi => by rw [Nat.zero_add, cell_of_row _ _ _ _ _ _ hh]; simp⟩
  have HV := hide hVL
  have HX1 := hide (show X.length = 1 * 7 by rw [hX])
  have HO := hide h1X
  have hcv : ∃ p c, v = .slice p n c ∧ n ≤ c ∧ c ≤ maxLen ∧ (p = none → n = 0 ∧ c = 0) := by
    rcases hown.2 with ⟨rfl, rfl⟩ | ⟨g, cap, cur, rfl, _, _, h2, h3, _⟩
    · exact ⟨none, 0, rfl, Nat.le_refl _, Nat.zero_le _, fun _ => ⟨rfl, rfl⟩⟩
    · exact ⟨_, cap, rfl, h2, h3, fun h => by cases h⟩
  obtain ⟨p, c, rfl, hnc, hcm, hp⟩ := hcv
  have HW := hide hown
  clear hown hVL hh hX h1X
  go_enter Tryd.func54, Tryd.ntmps54
  cases p with
  | none =>
    obtain ⟨rfl, rfl⟩ := hp rfl
    go_wp2_with (at_builtin; refine wpList_append_e w rfl 24 38 (.tmp 23) (.tmp 24) rfl Tryd.underlying24 (by decide) infoT (by decide) B _ 0 L rfl (unhide HW) hB X 1 (unhide HX1) (unhide HO) ⟨h, 0, none⟩ 1 (unhide HV) rfl (by omega) ?_; intro v' w1 ho hg hb)
    go_ret
    exact ⟨⟨_, rfl, ho⟩, fun k hk hk2 => hg.block k hk (fun e => hk2 e), hg.size, hb⟩
  | some a =>
    obtain ⟨ab, ao, asp⟩ := a
    have hp := ()
    go_wp2_with (at_builtin; refine wpList_append_e w rfl 24 38 (.tmp 23) (.tmp 24) rfl Tryd.underlying24 (by decide) infoT (by decide) B _ n L rfl (unhide HW) hB X 1 (unhide HX1) (unhide HO) ⟨h, 0, none⟩ 1 (unhide HV) rfl (by omega) ?_; intro v' w1 ho hg hb)
    all_goals (go_ret; exact ⟨⟨_, rfl, ho⟩, fun k hk hk2 => hg.block k hk (fun e => hk2 e), hg.size, hb⟩)
set_option maxHeartbeats 4000000 in
set_option maxRecDepth 1000000 in
theorem insRoomT (n : Nat) (hn : n ≤ 1000) (i : Nat) (hi : i < n) (L X : List Value) (hX : X.length = 7) (h1X : ∀ u ∈ X, u.oneCell' = true) (h1L : ∀ u ∈ L, u.oneCell' = true) (g cap : Nat) (cur : Array Value) (B h : Nat) (w : World) (hBg : B ≤ g) (hg : w.heap[g]? = some (.cells cur 38 (0, 0))) (hroom : n + 1 ≤ cap) (hcm : cap ≤ maxLen) (hcs : cur.size = cap * 7) (htk : cur.toList.take (n * 7) = L) (hlL : L.length = n * 7) (hgh : h ≠ g) (hh : w.heap[h]? = some (.cells X.toArray 38 (0, 0))) :
    Calls Tryd.prog 54 #[.slice (some ⟨g, 0, none⟩) n cap, .int .i64 (i : Int), .slice (some ⟨h, 0, none⟩) 1 1] w fun e w' => (∃ v', e = .returned v' ∧ w'.ownsRow B 38 7 v' (n + 1) (L.take (i * 7) ++ X ++ L.drop (i * 7))) ∧ (∀ k, k < w.heap.size → some k ≠ (Value.slice (some ⟨g, 0, none⟩) n cap).ownBlock → w'.heap[k]? = w.heap[k]?) ∧ w.heap.size ≤ w'.heap.size ∧ Below B w w' := by
  have hz2 : ¬ ((i : Int) = (n : Int)) := by omega
  have hcap63 : cap ≤ 9223372036854775807 := by unfold maxLen at hcm; omega
  obtain ⟨i0, z0, hi0, hzz, hz1, hz3, hzc⟩ := insInfoT
  have hsz : (Tryd.prog.info? 38).map (·.size) = some 7 := by rw [hi0, Option.map_some, hz1]
  have hov : ∀ lb cb, (callFunc 78 #[.slice (some ⟨h, 0, none⟩) 1 1, .slice (some ⟨g, (i + 1) * 7, none⟩) lb cb]).run Tryd.prog w = .ok (.value (.bool false)) w := fun lb cb => by
    rw [run_callFunc_extern Tryd.func78 (by kernel_rfl) (by kernel_rfl) (by kernel_rfl) (e := Extern.SlicesOverlaps.overlaps #[24, 24] #[4]) (by kernel_rfl),
      Lib.run_overlaps_apart w 24 4 38 Tryd.underlying24 7 Tryd.sizeOf38 ⟨h, 0, none⟩ ⟨g, (i + 1) * 7, none⟩ 1 1 lb cb hgh _ _ _ _ (shape_row hh) (shape_row hg) (by omega) (frozen_in_row hh) (frozen_in_row hh)]
    rfl
  have hdl : (L.drop (i * 7)).length = (n - i) * 7 := by rw [List.length_drop, hlL]; omega
  have hal : (L.take (i * 7)).length = i * 7 := by rw [List.length_take, hlL]; omega
  have hgd : w.drew.heap[g]? = some (.cells cur 38 (0, 0)) := hg
  have hcL : ∀ j u, (L.drop (i * 7))[j]? = some u → w.drew.cell? ((⟨g, i * 7, none⟩ : Addr).add j) = some u := fun j u hu => by
    rw [Addr.add_lit, cell_of_row _ _ _ _ _ _ hgd]
    have hj := (List.getElem?_eq_some_iff.1 hu).1
    rw [hdl] at hj
    have h1 : (cur.toList.take (n * 7))[i * 7 + j]? = L[i * 7 + j]? := by rw [htk]
    rw [List.getElem?_take, if_pos (by omega)] at h1
    rw [List.getElem?_drop, ← h1] at hu
    simpa using hu
  have hcp1 : ∀ ty, (Builtin.copy_ #[24, 24] ty #[.slice (some ⟨g, (i + 1) * 7, none⟩) (n + 1 - (i + 1)) (cap - (i + 1)), .slice (some ⟨g, i * 7, none⟩) (n + 1 - i) (cap - i)]).run Tryd.prog w.drew = .ok (goInt ((n - i : Nat) : Int)) (w.drew.setRow g (rowPut cur ((i + 1) * 7) (L.drop (i * 7)))) := fun ty =>
    run_copy_k w.drew _ _ ty 38 7 g ((i + 1) * 7) _ _ ⟨g, i * 7, none⟩ _ _ cur _ (L.drop (i * 7)) (n - i) Tryd.underlying24 hsz hgd (by simp only [Nat.min_def]; split <;> omega) hdl hcL (by rw [hdl, hcs]; omega) (fun u hu => h1L u (List.mem_of_mem_drop hu))
  obtain ⟨C1, hC1⟩ : ∃ C, rowPut cur ((i + 1) * 7) (L.drop (i * 7)) = C := ⟨_, rfl⟩
  have hs1 : C1.size = cap * 7 := by rw [← hC1, rowPut_size _ _ _ (by rw [hdl, hcs]; omega), hcs]
  rw [hC1] at hcp1
  obtain ⟨W1, hW1⟩ : ∃ W1, w.drew.setRow g C1 = W1 := ⟨_, rfl⟩
  have r1 : W1.heap[g]? = some (.cells C1 38 (0, 0)) := by rw [← hW1]; exact setRow_heap _ _ _ _ _ _ hgd
  have o1 : ∀ k, k ≠ g → W1.heap[k]? = w.heap[k]? := fun k hk => by rw [← hW1]; exact setRow_other _ _ _ _ hk
  have z1 : W1.heap.size = w.heap.size := by rw [← hW1]; exact setRow_size _ _ _
  have u1 : Below B w W1 := by rw [← hW1]; exact (show Below B w w.drew from ⟨rfl, rfl, rfl, Nat.le_refl _, fun _ _ => rfl⟩).trans (below_setRow (Below.refl _ _) hBg _)
  rw [hW1] at hcp1
  have hcp2 : ∀ ty, (Builtin.copy_ #[24, 24] ty #[.slice (some ⟨g, i * 7, none⟩) (n + 1 - i) (cap - i), .slice (some ⟨h, 0, none⟩) 1 1]).run Tryd.prog W1 = .ok (goInt ((1 : Nat) : Int)) (W1.setRow g (rowPut C1 (i * 7) X)) := fun ty =>
    run_copy_k W1 _ _ ty 38 7 g (i * 7) _ _ ⟨h, 0, none⟩ _ _ C1 _ X 1 Tryd.underlying24 hsz r1 (by simp only [Nat.min_def]; split <;> omega) (by rw [hX]) (fun j u hu => by
      rw [Addr.add_lit, Nat.zero_add, cell_of_row _ _ _ _ _ _ ((o1 h hgh).trans hh)]; simpa using hu) (by rw [hX, hs1]; omega) h1X
  have hrow := ins_right cur (L.take (i * 7)) X (L.drop (i * 7)) (by rw [hal, ← htk, List.take_take, Nat.min_eq_left (by omega)]) (by rw [hal, hX, hdl, hcs]; omega)
  rw [hal, hX, show i * 7 + 7 = (i + 1) * 7 by omega, hC1, hdl, show (i + 1) * 7 + (n - i) * 7 = (n + 1) * 7 by omega] at hrow
  have hs2 : (rowPut C1 (i * 7) X).size = cap * 7 := by rw [rowPut_size _ _ _ (by rw [hX, hs1]; omega), hs1]
  obtain ⟨C2, hC2⟩ : ∃ C, rowPut C1 (i * 7) X = C := ⟨_, rfl⟩
  rw [hC2] at hcp2 hrow hs2
  have FIN : Hid ((∃ v', (Ending.returned (.slice (some ⟨g, 0, none⟩) (n + 1) cap) : Ending) = .returned v' ∧ (W1.setRow g C2).ownsRow B 38 7 v' (n + 1) (L.take (i * 7) ++ X ++ L.drop (i * 7))) ∧ (∀ k, k < w.heap.size → some k ≠ (Value.slice (some ⟨g, 0, none⟩) n cap).ownBlock → (W1.setRow g C2).heap[k]? = w.heap[k]?) ∧ w.heap.size ≤ (W1.setRow g C2).heap.size ∧ Below B w (W1.setRow g C2)) := hide (by
    refine ⟨⟨_, rfl, by rw [List.length_append, List.length_append, hal, hX, hdl]; omega, .inr ⟨g, cap, C2, rfl, hBg, setRow_heap _ _ _ _ _ _ r1, hroom, hcm, hs2, hrow⟩⟩, fun k hk hk2 => ?_, ?_, u1.trans (below_setRow (Below.refl _ _) hBg _)⟩
    · have hne : k ≠ g := fun e => hk2 (by rw [e]; rfl)
      exact (setRow_other _ _ _ _ hne).trans (o1 k hne)
    · rw [setRow_size, z1]; exact Nat.le_refl _)
  obtain ⟨W2, hW2⟩ : ∃ W2, W1.setRow g C2 = W2 := ⟨_, rfl⟩
  rw [hW2] at FIN hcp2
  have hw1 : IntKind.i64.wrap ((i : Int) + 1) = (i : Int) + 1 := by rw [IntKind.wrap_i64]; omega
  have hw2 : IntKind.i64.wrap ((n : Int) + 1) = (n : Int) + 1 := by rw [IntKind.wrap_i64]; omega
  have hb1 : (0 : Int) ≤ (i : Int) + 1 := by omega
  have hb1' : (0 : Int) ≤ (n : Int) + 1 := by omega
  have hin : i ≤ n := by omega
  have hin' : i + 1 ≤ n + 1 := by omega
  have htn : ((i : Int) + 1).toNat = i + 1 := by omega
  have htn' : ((n : Int) + 1).toNat = n + 1 := by omega
  have hb2 : ¬ (cap = i + 1) := by omega
  have hb3 : (i : Int) + 1 ≤ (n : Int) + 1 := by omega
  have hb3' : (i : Int) ≤ (n : Int) + 1 := by omega
  have hb4 : ¬ (cap = i) := by omega
  have hb5 : ¬ ((cap : Int) < (n : Int) + 1) := by omega
  have hb6 : (n : Int) + 1 ≤ (cap : Int) := by omega
  have mixed := mixed
  clear hW1 hW2 r1 o1 z1 u1 hs1 hs2 hrow hC1 hC2 hcL hdl hal hgd hg hh hcs htk hlL h1L h1X hX hzc hz3 hzz hi0 hcm hBg hgh
  go_enter Tryd.func54, Tryd.ntmps54
  go_wp2_with (simp only [hov])
  go_region_law_o (refine step_copy_runI rfl _ _ 24 24 rfl _ _ (by simp [Act.eval, Act.put]) (by simp [Act.eval, Act.put]) (hcp1 _) ?_)
  go_wp2_with (at_builtin; refine wpList_copy_runI _ rfl _ _ 24 24 rfl _ _ rfl rfl (hcp2 _) ?_)
  go_ret
  exact unhide FIN
set_option maxHeartbeats 4000000 in
set_option maxRecDepth 1000000 in
theorem insGrowT (n : Nat) (hn : n ≤ 1000) (i : Nat) (hi : i < n) (L X : List Value) (hX : X.length = 7) (h1X : ∀ u ∈ X, u.oneCell' = true) (h1L : ∀ u ∈ L, u.oneCell' = true) (g cap : Nat) (cur : Array Value) (B h : Nat) (w : World) (hB : B ≤ w.heap.size) (hg : w.heap[g]? = some (.cells cur 38 (0, 0))) (hnc : n ≤ cap) (hroom : cap < n + 1) (hcs : cur.size = cap * 7) (htk : cur.toList.take (n * 7) = L) (hlL : L.length = n * 7) (hh : w.heap[h]? = some (.cells X.toArray 38 (0, 0))) :
    Calls Tryd.prog 54 #[.slice (some ⟨g, 0, none⟩) n cap, .int .i64 (i : Int), .slice (some ⟨h, 0, none⟩) 1 1] w fun e w' => (∃ v', e = .returned v' ∧ w'.ownsRow B 38 7 v' (n + 1) (L.take (i * 7) ++ X ++ L.drop (i * 7))) ∧ (∀ k, k < w.heap.size → some k ≠ (Value.slice (some ⟨g, 0, none⟩) n cap).ownBlock → w'.heap[k]? = w.heap[k]?) ∧ w.heap.size ≤ w'.heap.size ∧ Below B w w' := by
  have hz2 : ¬ ((i : Int) = (n : Int)) := by omega
  have hz3' : (cap : Int) < (n : Int) + 1 := by omega
  obtain ⟨i0, z0, hi0, hzz, hz1, hz3, hzc⟩ := insInfoT
  have hsz : (Tryd.prog.info? 38).map (·.size) = some 7 := by rw [hi0, Option.map_some, hz1]
  have hgw := (Array.getElem?_eq_some_iff.1 hg).1
  have hhw := (Array.getElem?_eq_some_iff.1 hh).1
  have hdl : (L.drop (i * 7)).length = (n - i) * 7 := by rw [List.length_drop, hlL]; omega
  have hal : (L.take (i * 7)).length = i * 7 := by rw [List.length_take, hlL]; omega
  have hgd : w.drew.heap[g]? = some (.cells cur 38 (0, 0)) := hg
  have hcell : ∀ (W : World), W.heap[g]? = some (.cells cur 38 (0, 0)) → ∀ j u, j < n * 7 → L[j]? = some u → W.cell? ⟨g, j, none⟩ = some u := fun W hW j u hj hu => by
    rw [cell_of_row _ _ _ _ _ _ hW]
    have h1 : (cur.toList.take (n * 7))[j]? = L[j]? := by rw [htk]
    rw [List.getElem?_take, if_pos hj] at h1
    rw [← h1] at hu
    simpa using hu
  have hold : (Builtin.firstCells i0.size i (.slice (some ⟨g, 0, none⟩) i cap)).run Tryd.prog w.drew = .ok (L.take (i * 7)).toArray w.drew := by
    rw [hz1]
    exact run_firstCells_some w.drew 7 i ⟨g, 0, none⟩ i cap (L.take (i * 7)) (by rw [hal]) (fun j u hj => by
      rw [Addr.add_lit, Nat.zero_add]
      have hjl := (List.getElem?_eq_some_iff.1 hj).1
      rw [hal] at hjl
      rw [List.getElem?_take, if_pos hjl] at hj
      exact hcell _ hgd j u (by omega) hj)
  have hkk : (n : Int) + 1 - (i : Int) = ((n + 1 - i : Nat) : Int) := by omega
  have hik : i + (n + 1 - i) = n + 1 := by omega
  obtain ⟨G, hG⟩ : ∃ G, grownCap w (n + 1) cap 38 = G := ⟨_, rfl⟩
  have hGn : n + 1 ≤ G := by rw [← hG]; exact grownCap_ge w _ _ _
  have hGm : G ≤ maxLen := by rw [← hG]; exact grownCap_le_maxLen w (n + 1) cap 38 (by unfold maxLen; omega)
  obtain ⟨ROW, hROW⟩ : ∃ R : Array Value, (L.take (i * 7)).toArray ++ Builtin.zeroCells z0.cells (n + 1 - i) ++ Builtin.zeroCells z0.cells (G - (n + 1)) = R := ⟨_, rfl⟩
  have hrz : ∀ ty, (Builtin.append_ #[24, 3] ty #[.slice (some ⟨g, 0, none⟩) i cap, .int .i64 ((n : Int) + 1 - (i : Int))]).run Tryd.prog w = .ok (.slice (some ⟨w.heap.size, 0, none⟩) (n + 1) G) (w.drew.alloc (.cells ROW 38)) := fun ty => by
    have h := Lib.run_append_grow_zeros w 24 3 ty 38 i0 z0 .i64 .i64 Tryd.underlying24 Tryd.underlying3 hi0 hzz (some ⟨g, 0, none⟩) i cap (L.take (i * 7)) hold (n + 1 - i) (by omega) (by omega) (by omega) (by omega) (by rw [hz3]; omega) (by rw [hz3, hik]; exact growslice_fits hroom (by omega))
    rw [hik, hG, hROW] at h
    rw [hkk]
    exact h
  have hRs : ROW.size = G * 7 := by
    rw [← hROW, Array.size_append, Array.size_append, zeroCells_size, zeroCells_size, hzc, List.size_toArray, hal]; omega
  have hRt : ROW.toList.take (i * 7) = L.take (i * 7) := by
    rw [← hROW, Array.toList_append, Array.toList_append, List.append_assoc]
    show ((L.take (i * 7)) ++ _).take (i * 7) = _
    rw [List.take_append_of_le_length (by rw [hal]; exact Nat.le_refl _), List.take_of_length_le (by rw [hal]; exact Nat.le_refl _)]
  obtain ⟨N, hN⟩ : ∃ N, w.heap.size = N := ⟨_, rfl⟩
  obtain ⟨W1, hW1⟩ : ∃ W1, w.drew.alloc (.cells ROW 38) = W1 := ⟨_, rfl⟩
  have r1 : W1.heap[N]? = some (.cells ROW 38 (0, 0)) := by rw [← hW1, ← hN]; exact al1 w.drew _
  have o1 : ∀ k, k < N → W1.heap[k]? = w.heap[k]? := fun k hk => by rw [← hW1]; exact Below.heap_alloc w.drew _ _ (by rw [← hN] at hk; exact hk)
  have z1 : N ≤ W1.heap.size := by rw [← hW1, ← hN, World.size_alloc]; exact Nat.le_succ _
  have u1 : Below B w W1 := by rw [← hW1]; exact (show Below B w w.drew from ⟨rfl, rfl, rfl, Nat.le_refl _, fun _ _ => rfl⟩).alloc hB _
  rw [hW1, hN] at hrz
  rw [hN] at hgw hhw
  have hcpA : ∀ ty, (Builtin.copy_ #[24, 24] ty #[.slice (some ⟨N, i * 7, none⟩) (n + 1 - i) (G - i), .slice (some ⟨h, 0, none⟩) 1 1]).run Tryd.prog W1 = .ok (goInt ((1 : Nat) : Int)) (W1.setRow N (rowPut ROW (i * 7) X)) := fun ty =>
    run_copy_k W1 _ _ ty 38 7 N (i * 7) _ _ ⟨h, 0, none⟩ _ _ ROW _ X 1 Tryd.underlying24 hsz r1 (by simp only [Nat.min_def]; split <;> omega) (by rw [hX]) (fun j u hu => by
      rw [Addr.add_lit, Nat.zero_add, cell_of_row _ _ _ _ _ _ ((o1 h hhw).trans hh)]; simpa using hu) (by rw [hX, hRs]; omega) h1X
  obtain ⟨R1, hR1⟩ : ∃ R, rowPut ROW (i * 7) X = R := ⟨_, rfl⟩
  have hs1 : R1.size = G * 7 := by rw [← hR1, rowPut_size _ _ _ (by rw [hX, hRs]; omega), hRs]
  rw [hR1] at hcpA
  obtain ⟨W2, hW2⟩ : ∃ W2, W1.setRow N R1 = W2 := ⟨_, rfl⟩
  have r2 : W2.drew.heap[N]? = some (.cells R1 38 (0, 0)) := by rw [← hW2]; exact setRow_heap W1 _ _ _ _ _ r1
  have o2 : ∀ k, k < N → W2.drew.heap[k]? = w.heap[k]? := fun k hk => by rw [← hW2]; exact (setRow_other W1 _ _ _ (by omega)).trans (o1 k hk)
  have z2 : N ≤ W2.drew.heap.size := by rw [← hW2]; show N ≤ (W1.setRow N R1).heap.size; rw [setRow_size]; exact z1
  have u2 : Below B w W2.drew := by
    rw [← hW2]
    exact (u1.trans (below_setRow (Below.refl _ _) (by omega) _)).trans ⟨rfl, rfl, rfl, Nat.le_refl _, fun _ _ => rfl⟩
  rw [hW2] at hcpA
  have hcpB : ∀ ty, (Builtin.copy_ #[24, 24] ty #[.slice (some ⟨N, (i + 1) * 7, none⟩) (n + 1 - (i + 1)) (G - (i + 1)), .slice (some ⟨g, i * 7, none⟩) (n - i) (cap - i)]).run Tryd.prog W2.drew = .ok (goInt ((n - i : Nat) : Int)) (W2.drew.setRow N (rowPut R1 ((i + 1) * 7) (L.drop (i * 7)))) := fun ty =>
    run_copy_k W2.drew _ _ ty 38 7 N ((i + 1) * 7) _ _ ⟨g, i * 7, none⟩ _ _ R1 _ (L.drop (i * 7)) (n - i) Tryd.underlying24 hsz r2 (by simp only [Nat.min_def]; split <;> omega) hdl (fun j u hu => by
      rw [Addr.add_lit]
      have hjl := (List.getElem?_eq_some_iff.1 hu).1
      rw [hdl] at hjl
      rw [List.getElem?_drop] at hu
      exact hcell _ ((o2 g hgw).trans hg) _ u (by omega) hu) (by rw [hdl, hs1]; omega) (fun u hu => h1L u (List.mem_of_mem_drop hu))
  have hrow := ins_left ROW (L.take (i * 7)) X (L.drop (i * 7)) (by rw [hal, hRt]) (by rw [hal, hX, hdl, hRs]; omega)
  rw [hal, hX, show i * 7 + 7 = (i + 1) * 7 by omega, hR1, hdl, show (i + 1) * 7 + (n - i) * 7 = (n + 1) * 7 by omega] at hrow
  have hs2 : (rowPut R1 ((i + 1) * 7) (L.drop (i * 7))).size = G * 7 := by rw [rowPut_size _ _ _ (by rw [hdl, hs1]; omega), hs1]
  obtain ⟨R2, hR2⟩ : ∃ C, rowPut R1 ((i + 1) * 7) (L.drop (i * 7)) = C := ⟨_, rfl⟩
  rw [hR2] at hcpB hrow hs2
  have FIN : Hid ((∃ v', (Ending.returned (.slice (some ⟨N, 0, none⟩) (n + 1) G) : Ending) = .returned v' ∧ (W2.drew.setRow N R2).ownsRow B 38 7 v' (n + 1) (L.take (i * 7) ++ X ++ L.drop (i * 7))) ∧ (∀ k, k < w.heap.size → some k ≠ (Value.slice (some ⟨g, 0, none⟩) n cap).ownBlock → (W2.drew.setRow N R2).heap[k]? = w.heap[k]?) ∧ w.heap.size ≤ (W2.drew.setRow N R2).heap.size ∧ Below B w (W2.drew.setRow N R2)) := hide (by
    rw [hN]
    refine ⟨⟨_, rfl, by rw [List.length_append, List.length_append, hal, hX, hdl]; omega, .inr ⟨N, G, R2, rfl, by omega, setRow_heap _ _ _ _ _ _ r2, hGn, hGm, hs2, hrow⟩⟩, fun k hk _ => (setRow_other _ _ _ _ (by omega)).trans (o2 k hk), ?_, u2.trans (below_setRow (Below.refl _ _) (by omega) _)⟩
    rw [setRow_size]; exact z2)
  obtain ⟨W3, hW3⟩ : ∃ W3, W2.drew.setRow N R2 = W3 := ⟨_, rfl⟩
  rw [hW3] at FIN hcpB
  have hw1 : IntKind.i64.wrap ((i : Int) + 1) = (i : Int) + 1 := by rw [IntKind.wrap_i64]; omega
  have hw2 : IntKind.i64.wrap ((n : Int) + 1) = (n : Int) + 1 := by rw [IntKind.wrap_i64]; omega
  have hb1 : (0 : Int) ≤ (i : Int) + 1 := by omega
  have hG63 : G ≤ 9223372036854775807 := by unfold maxLen at hGm; omega
  have hin : i ≤ n := by omega
  have hic : i ≤ cap := by omega
  have hin' : i + 1 ≤ n + 1 := by omega
  have htn : ((i : Int) + 1).toNat = i + 1 := by omega
  have hb3 : (i : Int) + 1 ≤ (n : Int) + 1 := by omega
  have hb3' : (i : Int) ≤ (n : Int) + 1 := by omega
  have hb3'' : (i : Int) ≤ (n : Int) := by omega
  have hb4 : ¬ (cap = i) := by omega
  have hGi : ¬ (G = i) := by omega
  have hGim : ¬ (G = i + 1) := by omega
  have mixed := mixed
  clear hW1 hW2 hW3 r1 o1 z1 u1 r2 o2 z2 u2 hs1 hs2 hrow hR1 hR2 hRs hRt hROW hcell hold hkk hik hdl hal hgd hg hh hcs htk hlL h1L h1X hX hzc hz3 hzz hi0 hgw hhw hG hN hGm
  go_enter Tryd.func54, Tryd.ntmps54
  go_wp2_with (first
    | (at_builtin; refine Lib.wpList_append_run _ rfl _ _ _ _ rfl _ _ rfl rfl _ _ (hrz _) ?_)
    | (at_builtin; refine wpList_copy_runI _ rfl _ _ 24 24 rfl _ _ rfl rfl (hcpA _) ?_))
  go_region_law_o (refine step_copy_runI rfl _ _ 24 24 rfl _ _ (by simp [Act.eval, Act.put]) (by simp [Act.eval, Act.put]) (hcpB _) ?_)
  go_wp2
  go_ret
  exact unhide FIN
set_option maxHeartbeats 1000000 in
/-- One element more at a place of a row of one's own. -/
theorem insT_calls (xs : List Tkn) (hn : xs.length ≤ 1000) (i : Nat) (hi : i ≤ xs.length) (x : Tkn) (v : Value) (B h : Nat) (w : World) (hB : B ≤ w.heap.size) (hown : w.ownsRow B 38 7 v xs.length (xs.flatMap tokC)) (hh : w.heap[h]? = some (.cells (tokC x).toArray 38 (0, 0))) (hne : some h ≠ v.ownBlock) :
    Calls Tryd.prog 54 #[v, .int .i64 (i : Int), .slice (some ⟨h, 0, none⟩) 1 1] w fun e w' => (∃ v', e = .returned v' ∧ w'.ownsRow B 38 7 v' (xs.insertIdx i x).length ((xs.insertIdx i x).flatMap tokC)) ∧ (∀ k, k < w.heap.size → some k ≠ v.ownBlock → w'.heap[k]? = w.heap[k]?) ∧ w.heap.size ≤ w'.heap.size ∧ Below B w w' := by
  rw [List.length_insertIdx, if_pos hi, flat_insert tokC_len x xs i hi]
  have hl := flatE_len tokC_len xs
  have h1 := flat_one tokC_one xs
  by_cases he : i = xs.length
  · rw [he, List.take_of_length_le (by rw [hl]; exact Nat.le_refl _), List.drop_of_length_le (by rw [hl]; exact Nat.le_refl _), List.append_nil]
    exact insEndT xs.length hn _ _ (tokC_len x) (tokC_one x) v B h w hB hown hh
  · rcases hown.2 with ⟨rfl, h0⟩ | ⟨g, cap, cur, rfl, hBg, hg, hnc, hcm, hcs, htk⟩
    · omega
    · by_cases hroom : xs.length + 1 ≤ cap
      · exact insRoomT xs.length hn i (by omega) _ _ (tokC_len x) (tokC_one x) h1 g cap cur B h w hBg hg hroom hcm hcs htk hl (fun e => hne (by rw [e]; rfl)) hh
      · exact insGrowT xs.length hn i (by omega) _ _ (tokC_len x) (tokC_one x) h1 g cap cur B h w hB hg hnc (by omega) hcs htk hl hh
end Go.Proofs.YtjfnaedcdmmigaaDoor

namespace Go.Proofs.YtjfnaedcdmmigaaDoor
open Go Go.RowKit
set_option linter.unusedSimpArgs false
set_option linter.unusedVariables false

/-- Ahead of the first one that stands behind it. -/
def pEnlist (ts : List Tkn) (o : Nat) (n : List UInt8) (m : Nat) : List Tkn × Nat :=
  if pRight n then (if ts.findIdx (isT o n) < ts.length then (ts, 13) else if 32 ≤ ts.length then (ts, 6) else (ts.insertIdx (ts.findIdx (fun t => decide (0 < pOrd t.o t.n o n))) ⟨o, n, m, 0, 0, 0, 0⟩, 0)) else (ts, 7)
set_option maxHeartbeats 4000000 in
set_option maxRecDepth 1000000 in
theorem enlist_calls (ts : List Tkn) (hs : List Hol) (hn1 : ts.length ≤ 1000) (hn2 : hs.length ≤ 1000) (htk : ∀ t ∈ ts, t.ok) (v : Value) (o : Nat) (n : List UInt8) (hnl : n.length ≤ 1000) (m : Nat) (w : World) (hU : UTabs w) (hP : PM w v ts hs) :
    Calls Tryd.prog 23 #[v, .int .u32 (o : Int), .string (str n), .int .u64 (m : Int)] w fun e w' => (∃ v', e = .returned (.tuple #[v', .int .i64 ((pEnlist ts o n m).2 : Int)]) ∧ PO w' w.heap.size v' (pEnlist ts o n m).1 hs) ∧ Below w.heap.size w w' := by
  obtain ⟨p1, c1, p2, c2, rfl, hT, hH⟩ := hP
  obtain ⟨q0, q1⟩ := al2 w (.cells #[.slice p1 ts.length c1, .slice p2 hs.length c2] 27) (.cells zPur 27)
  have b0 := bel2 w (.cells #[.slice p1 ts.length c1, .slice p2 hs.length c2] 27) (.cells zPur 27)
  have sX : ((w.alloc (.cells #[.slice p1 ts.length c1, .slice p2 hs.length c2] 27)).alloc (.cells zPur 27)).heap.size = w.heap.size + 1 + 1 := by simp
  obtain ⟨X, hX⟩ : ∃ X, (w.alloc (.cells #[.slice p1 ts.length c1, .slice p2 hs.length c2] 27)).alloc (.cells zPur 27) = X := ⟨_, rfl⟩
  have HX := hide hX
  rw [hX] at q0 q1 b0 sX
  have PX : PM X (.agg #[.slice p1 ts.length c1, .slice p2 hs.length c2]) ts hs := ⟨p1, c1, p2, c2, rfl, hT.below b0, hH.below b0⟩
  have CT := hide (twin_calls ts hs hn1 hn2 _ X PX)
  have CR := hide fun W => right_calls n (by omega) W
  have CP := hide fun W (hW : Below X.heap.size X W) => tokPlace_calls ts hs hn1 hn2 p1 p2 c1 c2 o n W ((hT.below b0).below hW) ((hH.below b0).below hW)
  have CI := hide fun K W (hW : Below X.heap.size X W) (q : W.heap[K]? = some (.cells (tkv o n) 79 (0, 0))) => indexT_calls 52 (enters_of Tryd.func52 (by kernel_rfl) rfl) #[.pointer (some ⟨K, 0, none⟩)] (fun t => decide (0 < pOrd t.o t.n o n)) ts hn1 p1 c1 W ((hT.below b0).below hW) (fun x hx V hV => tokBehind_calls x (htk x hx) o n hnl K V (((hU.below' b0).below' hW).below' hV) (Below.at hV (Array.getElem?_eq_some_iff.1 q).1 q))
  have HL : Hid (pEnlist ts o n m = if pRight n then (if ts.findIdx (isT o n) < ts.length then (ts, 13) else if 32 ≤ ts.length then (ts, 6) else (ts.insertIdx (ts.findIdx (fun t => decide (0 < pOrd t.o t.n o n))) ⟨o, n, m, 0, 0, 0, 0⟩, 0)) else (ts, 7)) := hide rfl
  obtain ⟨R, hR⟩ : ∃ R, pEnlist ts o n m = R := ⟨_, rfl⟩
  rw [hR] at HL
  rw [hR]
  have QR := hide q1
  have Q0 := hide q0
  have B0 := hide b0
  have SX := hide sX
  have HN1 := hide hn1
  have PS := hide fun v1 v2 => purSz v1 v2
  have KI := hide (tkInfo o n)
  have mf : ∀ (fn : Fn) (first cap : Array Value) (w : World), (Instr.makeFunc fn first cap).run Tryd.prog w = .ok (.func fn first cap) w := fun _ _ _ _ => rfl
  unfold zPur at HX
  generalize pRight n = RN at *
  clear hT hH hX PX q1 b0 sX hn1 hn2 htk hnl hU hR
  go_enter Tryd.func23, Tryd.ntmps23
  go_upto_region 1 with fail
  change Code.wp _ _ _ _ ((w.alloc (.cells #[.slice p1 ts.length c1, .slice p2 hs.length c2] 27)).alloc (.cells #[.slice none 0 0, .slice none 0 0] 27))
  rw [unhide HX]
  go_wp2_with (refine wpList_load_row rfl 27 (.tmp 4) rfl w.heap.size rfl 27 _ (0, 0) _ q0 Tryd.underlying27 rfl (unhide PS _ _) ?_)
  refine (unhide CT).mono ?_
  rintro e w2 ⟨⟨v', rfl, u1, u2, rfl, own1, own2⟩, b2⟩
  have one2 := two_one u1 u2 (owns_one own1) (owns_one own2)
  have O1 := hide own1
  have O2 := hide own2
  have B2 := hide b2
  clear own1 own2 b2 CT q0
  go_upto_region 2 with (refine wpList_store_newV rfl 27 (.tmp 10) (.tmp 14) rfl w2 #[.slice none 0 0, .slice none 0 0] _ #[u1, u2] rfl rfl (unhide PS _ _) rfl one2 ?_; intro w3 q7 b3 z3)
  have z2 := (unhide B2).size
  have S3 : Hid (Below X.heap.size X w3) := hide ((unhide B2).trans (b3.mono z2))
  have V3 : Hid (QV w3 X.heap.size w2.heap.size u1 u2 ts hs) := hide ⟨q7, vowns_below (unhide O1) b3, vowns_below (unhide O2) b3⟩
  obtain ⟨G, hG⟩ : ∃ G, w2.heap.size = G := ⟨_, rfl⟩
  have HGX : Hid (X.heap.size ≤ G) := hide (by rw [← hG]; exact z2)
  rw [hG] at V3
  simp only [hG]
  clear q7 b3 z3 z2 hG B2 O1 O2
  go_upto_region 3 with fail
  have qk := al1 w3 (.cells (tkv o n) 79)
  have bk : Below w3.heap.size w3 (w3.alloc (.cells (tkv o n) 79)) := (Below.refl _ _).alloc (Nat.le_refl _) _
  change Code.wp _ _ _ _ (w3.alloc (.cells (tkv o n) 79))
  have S4 : Hid (Below X.heap.size X (w3.alloc (.cells (tkv o n) 79))) := hide ((unhide S3).trans (bk.mono (unhide S3).size))
  have V4 := hide ((unhide V3).below bk)
  obtain ⟨w4, hw4⟩ : ∃ W, w3.alloc (.cells (tkv o n) 79) = W := ⟨_, rfl⟩
  rw [hw4] at qk S4 V4
  rw [hw4]
  obtain ⟨K, hKs⟩ : ∃ K, w3.heap.size = K := ⟨_, rfl⟩
  rw [hKs] at qk
  simp only [hKs]
  obtain ⟨KY, hKY⟩ : ∃ k, tkv o n = k := ⟨_, rfl⟩
  rw [hKY] at qk CP CI KI
  have QK := hide qk
  clear bk hw4 hKs S3 V3 hKY qk
  go_wp2_with fail
  refine (unhide CR _).mono ?_
  rintro e w5 ⟨rfl, b5⟩
  have S5 : Hid (Below X.heap.size X w5) := hide ((unhide S4).trans (b5.mono (unhide S4).size))
  have V5 := hide ((unhide V4).below b5)
  have q5 := Below.at b5 (Array.getElem?_eq_some_iff.1 (unhide QK)).1 (unhide QK)
  clear b5 S4 V4 CR QK
  -- an error: the twin as it is
  have ERR : Hid (∀ (W : World) (E : Nat), R = (ts, E) → Below X.heap.size X W → QV W X.heap.size G u1 u2 ts hs → W.heap[w.heap.size + 1]? = some (.cells zPur 27 (0, 0)) ∧ (PO (W.setRow (w.heap.size + 1) #[u1, u2]) w.heap.size (.agg #[u1, u2]) R.1 hs ∧ Below w.heap.size w (W.setRow (w.heap.size + 1) #[u1, u2])) ∧ R.2 = E) := hide fun W E hE hW hV => by
    have r := Below.at hW (by have := unhide SX; omega) (unhide QR)
    subst hE
    exact ⟨r, ⟨(hV.out _ _ r).base (by have := (unhide B0).size; omega), ((unhide B0).trans (hW.mono (unhide B0).size)).trans (below_setRow (Below.refl _ _) (by omega) _)⟩, rfl⟩
  cases RN with
  | false =>
    have HR := unhide HL
    rw [if_neg (by simp)] at HR
    have F := hide (unhide ERR w5 7 HR (unhide S5) (unhide V5))
    have rz := (unhide F).1
    have r5 := (unhide V5).row
    clear HR HL CP CI S5 V5 q5 ERR
    go_wp2_with (first
      | (refine wpList_load_row rfl 27 (.tmp 10) rfl G rfl 27 _ (0, 0) _ r5 Tryd.underlying27 rfl (unhide PS _ _) ?_)
      | (refine wpList_store_row rfl 27 (.tmp 8) (.tmp 22) rfl (w.heap.size + 1) _ rfl rfl 27 _ rz (unhide PS _ _) rfl one2 ?_))
    exact bodyPost_ret (results_row_tmp rfl _ _ (w.heap.size + 1) _ _ _ _ rfl (setRow_heap _ _ _ _ _ _ rz) Tryd.underlying27 rfl (unhide PS _ _)) rfl ⟨⟨_, by rw [(unhide F).2.2]; rfl, (unhide F).2.1.1⟩, (unhide F).2.1.2⟩
  | true =>
    have HR := unhide HL
    rw [if_pos rfl] at HR
    have HL2 := hide HR
    have k0 := Below.at (unhide S5) (by have := unhide SX; omega) (unhide Q0)
    have Q5 := hide q5
    clear HR HL
    go_wp2_with (first
      | (refine wpList_load_row rfl 27 (.tmp 4) rfl w.heap.size rfl 27 _ (0, 0) _ k0 Tryd.underlying27 rfl (unhide PS _ _) ?_)
      | (refine wpList_load_row rfl 79 (.tmp 11) rfl K rfl 79 _ (0, 0) _ q5 Tryd.underlying79 rfl (unhide KI) ?_))
    refine (unhide CP _ (unhide S5)).mono ?_
    rintro e w6 ⟨rfl, b6⟩
    have S6 : Hid (Below X.heap.size X w6) := hide ((unhide S5).trans (b6.mono (unhide S5).size))
    have V6 := hide ((unhide V5).below b6)
    have q6 := Below.at b6 (Array.getElem?_eq_some_iff.1 (unhide Q5)).1 (unhide Q5)
    clear b6 S5 V5 CP Q5 q5 k0
    by_cases hlt : ts.findIdx (isT o n) < ts.length
    · have hr : pIx (isT o n) ts = (ts.findIdx (isT o n) : Int) := by unfold pIx; rw [if_pos hlt]
      rw [hr]
      have HR := unhide HL2
      rw [if_pos hlt] at HR
      generalize ts.findIdx (isT o n) = J at *
      have d0 : (0 : Int) ≤ (J : Int) := by omega
      have F := hide (unhide ERR w6 13 HR (unhide S6) (unhide V6))
      have rz := (unhide F).1
      have r5 := (unhide V6).row
      clear HR HL2 CI S6 V6 q6 ERR hr hlt
      go_wp2_with (first
        | (refine wpList_load_row rfl 27 (.tmp 10) rfl G rfl 27 _ (0, 0) _ r5 Tryd.underlying27 rfl (unhide PS _ _) ?_)
        | (refine wpList_store_row rfl 27 (.tmp 8) (.tmp 28) rfl (w.heap.size + 1) _ rfl rfl 27 _ rz (unhide PS _ _) rfl one2 ?_))
      exact bodyPost_ret (results_row_tmp rfl _ _ (w.heap.size + 1) _ _ _ _ rfl (setRow_heap _ _ _ _ _ _ rz) Tryd.underlying27 rfl (unhide PS _ _)) rfl ⟨⟨_, by rw [(unhide F).2.2]; rfl, (unhide F).2.1.1⟩, (unhide F).2.1.2⟩
    · have hr : pIx (isT o n) ts = -1 := by unfold pIx; rw [if_neg hlt]
      rw [hr]
      have HR := unhide HL2
      rw [if_neg hlt] at HR
      have HL3 := hide HR
      have k0 := Below.at (unhide S6) (by have := unhide SX; omega) (unhide Q0)
      have c0 : w6.cell? ⟨w.heap.size, 0, none⟩ = some (.slice p1 ts.length c1) := cell_of_row _ _ _ _ _ _ k0
      clear HR HL2 hr hlt k0
      by_cases h32 : 32 ≤ ts.length
      · have HR := unhide HL3
        rw [if_pos h32] at HR
        have d32 : (32 : Int) ≤ (ts.length : Int) := by omega
        have F := hide (unhide ERR w6 6 HR (unhide S6) (unhide V6))
        have rz := (unhide F).1
        have r5 := (unhide V6).row
        clear HR HL3 CI S6 V6 q6 ERR
        go_wp2_with (first
          | (refine wpList_load_row rfl 27 (.tmp 10) rfl G rfl 27 _ (0, 0) _ r5 Tryd.underlying27 rfl (unhide PS _ _) ?_)
          | (refine wpList_store_row rfl 27 (.tmp 8) (.tmp 34) rfl (w.heap.size + 1) _ rfl rfl 27 _ rz (unhide PS _ _) rfl one2 ?_))
        exact bodyPost_ret (results_row_tmp rfl _ _ (w.heap.size + 1) _ _ _ _ rfl (setRow_heap _ _ _ _ _ _ rz) Tryd.underlying27 rfl (unhide PS _ _)) rfl ⟨⟨_, by rw [(unhide F).2.2]; rfl, (unhide F).2.1.1⟩, (unhide F).2.1.2⟩
      · have HR := unhide HL3
        rw [if_neg h32] at HR
        have d32 : ¬ (32 : Int) ≤ (ts.length : Int) := by omega
        have CI6 := hide (unhide CI K w6 (unhide S6) q6)
        clear HL3 CI ERR q6
        go_wp2_with fail
        refine (unhide CI6).mono ?_
        rintro e w7 ⟨rfl, b7⟩
        have S7 : Hid (Below X.heap.size X w7) := hide ((unhide S6).trans (b7.mono (unhide S6).size))
        have V7 := hide ((unhide V6).below b7)
        have k0 := Below.at (unhide S7) (by have := unhide SX; omega) (unhide Q0)
        have c7 : w7.cell? ⟨w.heap.size, 0, none⟩ = some (.slice p1 ts.length c1) := cell_of_row _ _ _ _ _ _ k0
        clear b7 S6 V6 CI6 c0 k0
        obtain ⟨RR, hRR⟩ : ∃ R, ts.findIdx (fun t => decide (0 < pOrd t.o t.n o n)) = R := ⟨_, rfl⟩
        have hRl : RR ≤ ts.length := by rw [← hRR]; exact List.findIdx_le_length
        have hpi : pIx (fun t => decide (0 < pOrd t.o t.n o n)) ts = if RR < ts.length then (RR : Int) else -1 := by unfold pIx; rw [hRR]
        rw [hRR] at HR
        rw [hpi]
        have HRl := hide hRl
        have HH := hide HR
        have kq : w7.cell? ⟨G, 0, none⟩ = some u1 := cell_of_row _ _ _ _ _ _ (unhide V7).row
        clear hRR hpi hRl HR
        by_cases hRn : RR < ts.length
        · rw [if_pos hRn]
          have dR : ¬ (RR : Int) < 0 := by omega
          go_upto_region 12 with fail
          have hnew := al1 w7 (.cells (tokC ⟨o, n, m, 0, 0, 0, 0⟩).toArray 38)
          have bN : Below w7.heap.size w7 (w7.alloc (.cells (tokC ⟨o, n, m, 0, 0, 0, 0⟩).toArray 38)) := (Below.refl _ _).alloc (Nat.le_refl _) _
          have V7' := (unhide V7).below bN
          have S7' : Below X.heap.size X (w7.alloc (.cells (tokC ⟨o, n, m, 0, 0, 0, 0⟩).toArray 38)) := (unhide S7).trans (bN.mono (unhide S7).size)
          have hne : some w7.heap.size ≠ u1.ownBlock := fun e => by
            rcases (unhide V7).tok.2 with ⟨rfl, _⟩ | ⟨g2, cap2, cur2, rfl, _, hg2, _⟩
            · cases e
            · simp only [Value.ownBlock, Option.some.injEq] at e
              have := (Array.getElem?_eq_some_iff.1 hg2).1
              omega
          have CC := hide (insT_calls ts (unhide HN1) RR (unhide HRl) ⟨o, n, m, 0, 0, 0, 0⟩ u1 X.heap.size w7.heap.size (w7.alloc (.cells (tokC ⟨o, n, m, 0, 0, 0, 0⟩).toArray 38)) (by rw [World.size_alloc]; have := (unhide S7).size; omega) V7'.tok hnew hne)
          obtain ⟨Y, hY⟩ : ∃ Y, w7.alloc (.cells (tokC ⟨o, n, m, 0, 0, 0, 0⟩).toArray 38) = Y := ⟨_, rfl⟩
          rw [hY] at CC V7' S7'
          have VY := hide V7'
          have SY := hide S7'
          have HY := hide hY
          have eC : tokC ⟨o, n, m, 0, 0, 0, 0⟩ = [.int .u32 (o : Int), .string (str n), .int .u64 (m : Int), .int .u64 0, .int .u64 0, .int .u64 0, .int .u64 0] := rfl
          rw [eC] at HY
          clear hnew bN V7' S7' hne hY V7 S7 eC c7
          go_wp2_with (first
            | (rw [unhide HY])
            | fail)
          refine (unhide CC).mono ?_
          rintro e w8 ⟨⟨x2, rfl, own6⟩, kp6, zz6, b6⟩
          obtain ⟨pz, cz, nz, hx2⟩ : ∃ pz cz nz, x2 = .slice pz nz cz := by
            obtain ⟨pz, cz, h, _⟩ := EL_of_owns tokC_len own6
            exact ⟨pz, cz, _, h⟩
          have hnG := not_owned (unhide VY).tok (unhide VY).row (by decide)
          have row6 := (kp6 G (Array.getElem?_eq_some_iff.1 (unhide VY).row).1 hnG).trans (unhide VY).row
          have hol6 := vowns_kept (unhide VY).hol (unhide VY).tok (by decide) kp6
          have S8 : Below X.heap.size X w8 := (unhide SY).trans b6
          have f6 : w8.frozen? ⟨G, 0, none⟩ = false := frozen_in_row row6
          have c6 : w8.cell? ⟨G, 0, none⟩ = some u1 := cell_of_row _ _ _ _ _ _ row6
          have one6 := two_one x2 u2 (owns_one own6) (owns_one hol6)
          have r6 := heap_setCell_same w8 G 0 #[u1, u2] _ x2 row6
          have V9 : QV (w8.setCell ⟨G, 0, none⟩ x2) X.heap.size G x2 u2 (ts.insertIdx RR ⟨o, n, m, 0, 0, 0, 0⟩) hs :=
            ⟨r6, vowns_other own6 (fun k' hk' => Below.heap_setCell w8 ⟨G, 0, none⟩ _ k' hk') _ _ (by decide) row6, vowns_other hol6 (fun k' hk' => Below.heap_setCell w8 ⟨G, 0, none⟩ _ k' hk') _ _ (by decide) row6⟩
          have S9 : Below X.heap.size X (w8.setCell ⟨G, 0, none⟩ x2) := S8.setCell (p := ⟨G, 0, none⟩) (unhide HGX) _
          have r8 := Below.at S9 (by have := unhide SX; omega) (unhide QR)
          have HE := unhide HH
          have F1 : Hid (PO ((w8.setCell ⟨G, 0, none⟩ x2).setRow (w.heap.size + 1) #[x2, u2]) w.heap.size (.agg #[x2, u2]) R.1 hs) := hide (by rw [HE]; exact (V9.out _ _ r8).base (by have := (unhide B0).size; omega))
          have F2 : Hid (Below w.heap.size w ((w8.setCell ⟨G, 0, none⟩ x2).setRow (w.heap.size + 1) #[x2, u2])) := hide (((unhide B0).trans (S9.mono (unhide B0).size)).trans (below_setRow (Below.refl _ _) (by omega) _))
          have F3 : Hid (R.2 = 0) := hide (by rw [HE])
          have r7 := V9.row
          clear own6 kp6 zz6 b6 hnG row6 hol6 S8 r6 V9 S9 CC VY SY HY kq HE HH
          subst hx2
          go_upto_region 13 with fail
          obtain ⟨W7, hW7⟩ : ∃ W, w8.setCell ⟨G, 0, none⟩ (.slice pz nz cz) = W := ⟨_, rfl⟩
          rw [hW7] at r7 r8 F1 F2
          rw [hW7]
          clear f6 c6 hW7
          go_wp2_with (first
            | (refine wpList_load_row rfl 27 (.tmp 10) rfl G rfl 27 _ (0, 0) _ r7 Tryd.underlying27 rfl (unhide PS _ _) ?_)
            | (refine wpList_store_row rfl 27 (.tmp 8) (.tmp 54) rfl (w.heap.size + 1) _ rfl rfl 27 _ r8 (unhide PS _ _) rfl one6 ?_))
          exact bodyPost_ret (results_row_tmp rfl _ _ (w.heap.size + 1) _ _ _ _ rfl (setRow_heap _ _ _ _ _ _ r8) Tryd.underlying27 rfl (unhide PS _ _)) rfl ⟨⟨_, by rw [unhide F3]; rfl, unhide F1⟩, unhide F2⟩
        · rw [if_neg hRn]
          have hRe : RR = ts.length := by have := unhide HRl; omega
          subst hRe
          go_upto_region 12 with fail
          have hnew := al1 w7 (.cells (tokC ⟨o, n, m, 0, 0, 0, 0⟩).toArray 38)
          have bN : Below w7.heap.size w7 (w7.alloc (.cells (tokC ⟨o, n, m, 0, 0, 0, 0⟩).toArray 38)) := (Below.refl _ _).alloc (Nat.le_refl _) _
          have V7' := (unhide V7).below bN
          have S7' : Below X.heap.size X (w7.alloc (.cells (tokC ⟨o, n, m, 0, 0, 0, 0⟩).toArray 38)) := (unhide S7).trans (bN.mono (unhide S7).size)
          have hne : some w7.heap.size ≠ u1.ownBlock := fun e => by
            rcases (unhide V7).tok.2 with ⟨rfl, _⟩ | ⟨g2, cap2, cur2, rfl, _, hg2, _⟩
            · cases e
            · simp only [Value.ownBlock, Option.some.injEq] at e
              have := (Array.getElem?_eq_some_iff.1 hg2).1
              omega
          have CC := hide (insT_calls ts (unhide HN1) ts.length (unhide HRl) ⟨o, n, m, 0, 0, 0, 0⟩ u1 X.heap.size w7.heap.size (w7.alloc (.cells (tokC ⟨o, n, m, 0, 0, 0, 0⟩).toArray 38)) (by rw [World.size_alloc]; have := (unhide S7).size; omega) V7'.tok hnew hne)
          obtain ⟨Y, hY⟩ : ∃ Y, w7.alloc (.cells (tokC ⟨o, n, m, 0, 0, 0, 0⟩).toArray 38) = Y := ⟨_, rfl⟩
          rw [hY] at CC V7' S7'
          have VY := hide V7'
          have SY := hide S7'
          have HY := hide hY
          have eC : tokC ⟨o, n, m, 0, 0, 0, 0⟩ = [.int .u32 (o : Int), .string (str n), .int .u64 (m : Int), .int .u64 0, .int .u64 0, .int .u64 0, .int .u64 0] := rfl
          rw [eC] at HY
          clear hnew bN V7' S7' hne hY V7 S7 eC c7
          go_wp2_with (first
            | (rw [unhide HY])
            | fail)
          refine (unhide CC).mono ?_
          rintro e w8 ⟨⟨x2, rfl, own6⟩, kp6, zz6, b6⟩
          obtain ⟨pz, cz, nz, hx2⟩ : ∃ pz cz nz, x2 = .slice pz nz cz := by
            obtain ⟨pz, cz, h, _⟩ := EL_of_owns tokC_len own6
            exact ⟨pz, cz, _, h⟩
          have hnG := not_owned (unhide VY).tok (unhide VY).row (by decide)
          have row6 := (kp6 G (Array.getElem?_eq_some_iff.1 (unhide VY).row).1 hnG).trans (unhide VY).row
          have hol6 := vowns_kept (unhide VY).hol (unhide VY).tok (by decide) kp6
          have S8 : Below X.heap.size X w8 := (unhide SY).trans b6
          have f6 : w8.frozen? ⟨G, 0, none⟩ = false := frozen_in_row row6
          have c6 : w8.cell? ⟨G, 0, none⟩ = some u1 := cell_of_row _ _ _ _ _ _ row6
          have one6 := two_one x2 u2 (owns_one own6) (owns_one hol6)
          have r6 := heap_setCell_same w8 G 0 #[u1, u2] _ x2 row6
          have V9 : QV (w8.setCell ⟨G, 0, none⟩ x2) X.heap.size G x2 u2 (ts.insertIdx ts.length ⟨o, n, m, 0, 0, 0, 0⟩) hs :=
            ⟨r6, vowns_other own6 (fun k' hk' => Below.heap_setCell w8 ⟨G, 0, none⟩ _ k' hk') _ _ (by decide) row6, vowns_other hol6 (fun k' hk' => Below.heap_setCell w8 ⟨G, 0, none⟩ _ k' hk') _ _ (by decide) row6⟩
          have S9 : Below X.heap.size X (w8.setCell ⟨G, 0, none⟩ x2) := S8.setCell (p := ⟨G, 0, none⟩) (unhide HGX) _
          have r8 := Below.at S9 (by have := unhide SX; omega) (unhide QR)
          have HE := unhide HH
          have F1 : Hid (PO ((w8.setCell ⟨G, 0, none⟩ x2).setRow (w.heap.size + 1) #[x2, u2]) w.heap.size (.agg #[x2, u2]) R.1 hs) := hide (by rw [HE]; exact (V9.out _ _ r8).base (by have := (unhide B0).size; omega))
          have F2 : Hid (Below w.heap.size w ((w8.setCell ⟨G, 0, none⟩ x2).setRow (w.heap.size + 1) #[x2, u2])) := hide (((unhide B0).trans (S9.mono (unhide B0).size)).trans (below_setRow (Below.refl _ _) (by omega) _))
          have F3 : Hid (R.2 = 0) := hide (by rw [HE])
          have r7 := V9.row
          clear own6 kp6 zz6 b6 hnG row6 hol6 S8 r6 V9 S9 CC VY SY HY kq HE HH
          subst hx2
          go_upto_region 13 with fail
          obtain ⟨W7, hW7⟩ : ∃ W, w8.setCell ⟨G, 0, none⟩ (.slice pz nz cz) = W := ⟨_, rfl⟩
          rw [hW7] at r7 r8 F1 F2
          rw [hW7]
          clear f6 c6 hW7
          go_wp2_with (first
            | (refine wpList_load_row rfl 27 (.tmp 10) rfl G rfl 27 _ (0, 0) _ r7 Tryd.underlying27 rfl (unhide PS _ _) ?_)
            | (refine wpList_store_row rfl 27 (.tmp 8) (.tmp 54) rfl (w.heap.size + 1) _ rfl rfl 27 _ r8 (unhide PS _ _) rfl one6 ?_))
          exact bodyPost_ret (results_row_tmp rfl _ _ (w.heap.size + 1) _ _ _ _ rfl (setRow_heap _ _ _ _ _ _ r8) Tryd.underlying27 rfl (unhide PS _ _)) rfl ⟨⟨_, by rw [unhide F3]; rfl, unhide F1⟩, unhide F2⟩
end Go.Proofs.YtjfnaedcdmmigaaDoor

namespace Go.Proofs.YtjfnaedcdmmigaaDoor
open Go Go.RowKit
set_option linter.unusedSimpArgs false
set_option linter.unusedVariables false

theorem rangeAt_belowP {w w' : World} {B b off : Nat} {cs : List Value} (h : w.rangeAt b off cs) (hb : Below B w w') (hB : b < B) : w'.rangeAt b off cs := fun i v hv => by
  rw [hb.cell (p := ⟨b, off + i, none⟩) hB]; exact h i v hv
set_option maxRecDepth 100000 in
theorem tok_neq (t : Tkn) (w : World) : (binOp .neq 38 (.agg (tokC t).toArray) (.agg (tokC t).toArray)).run Tryd.prog w = .ok (.bool false) w := by
  unfold tokC
  go_simp
set_option maxRecDepth 100000 in
theorem hol_neq (t : Hol) (w : World) : (binOp .neq 75 (.agg (holC t).toArray) (.agg (holC t).toArray)).run Tryd.prog w = .ok (.bool false) w := by
  unfold holC
  go_simp
set_option maxHeartbeats 4000000 in
set_option maxRecDepth 100000 in
theorem psame_calls (ts : List Tkn) (hs : List Hol) (hn1 : ts.length ≤ 1000) (hn2 : hs.length ≤ 1000) (v1 v2 : Value) (w : World) (P1 : PM w v1 ts hs) (P2 : PM w v2 ts hs) :
    Calls Tryd.prog 10 #[v1, v2] w fun e w' => e = .returned (.bool true) ∧ Below w.heap.size w w' := by
  obtain ⟨p1, c1, p2, c2, rfl, hT1, hH1⟩ := P1
  obtain ⟨p3, c3, p4, c4, rfl, hT2, hH2⟩ := P2
  obtain ⟨q0, q1⟩ := al2 w (.cells #[.slice p1 ts.length c1, .slice p2 hs.length c2] 27) (.cells #[.slice p3 ts.length c3, .slice p4 hs.length c4] 27)
  have b0 := bel2 w (.cells #[.slice p1 ts.length c1, .slice p2 hs.length c2] 27) (.cells #[.slice p3 ts.length c3, .slice p4 hs.length c4] 27)
  have sX : ((w.alloc (.cells #[.slice p1 ts.length c1, .slice p2 hs.length c2] 27)).alloc (.cells #[.slice p3 ts.length c3, .slice p4 hs.length c4] 27)).heap.size = w.heap.size + 1 + 1 := by simp
  obtain ⟨n, hn⟩ : ∃ n, ts.length = n := ⟨_, rfl⟩
  obtain ⟨m, hm⟩ : ∃ n, hs.length = n := ⟨_, rfl⟩
  rw [hn] at hn1
  rw [hm] at hn2
  rw [hn, hm] at q0 q1 b0 sX ⊢
  obtain ⟨X, hX⟩ : ∃ X, (w.alloc (.cells #[.slice p1 n c1, .slice p2 m c2] 27)).alloc (.cells #[.slice p3 n c3, .slice p4 m c4] 27) = X := ⟨_, rfl⟩
  have HX := hide hX
  rw [hX] at q0 q1 b0 sX
  have T1 := hide (hT1.below b0)
  have T2 := hide (hT2.below b0)
  have H1 := hide (hH1.below b0)
  have H2 := hide (hH2.below b0)
  have HN := hide hn
  have HM := hide hm
  have Q0 := hide q0
  have Q1 := hide q1
  have B0 := hide b0
  have SX := hide sX
  have CL : Hid (∀ W, Below X.heap.size X W → (W.cell? ⟨w.heap.size, 0, none⟩ = some (.slice p1 n c1) ∧ W.cell? ⟨w.heap.size, 1, none⟩ = some (.slice p2 m c2)) ∧ W.cell? ⟨w.heap.size + 1, 0, none⟩ = some (.slice p3 n c3) ∧ W.cell? ⟨w.heap.size + 1, 1, none⟩ = some (.slice p4 m c4)) := hide fun W hW => by
    have a0 := Below.at hW (by omega) q0
    have a1 := Below.at hW (by omega) q1
    exact ⟨⟨by rw [cell_of_row _ _ _ _ _ _ a0]; rfl, by rw [cell_of_row _ _ _ _ _ _ a0]; rfl⟩, by rw [cell_of_row _ _ _ _ _ _ a1]; rfl, by rw [cell_of_row _ _ _ _ _ _ a1]; rfl⟩
  have k00 := ((unhide CL) X (Below.refl _ _)).1.1
  have k01 := ((unhide CL) X (Below.refl _ _)).1.2
  have k10 := ((unhide CL) X (Below.refl _ _)).2.1
  have k11 := ((unhide CL) X (Below.refl _ _)).2.2
  clear hT1 hT2 hH1 hH2 hn hm hX q0 q1 b0 sX
  go_enter Tryd.func10, Tryd.ntmps10
  go_upto_region 1 with fail
  change Code.wp _ _ _ _ ((w.alloc (.cells #[.slice p1 n c1, .slice p2 m c2] 27)).alloc (.cells #[.slice p3 n c3, .slice p4 m c4] 27))
  rw [unhide HX]
  go_wp2
  clear k00 k01 k10 k11
  go_loopw [5, 26] (fun _ i wr => ∃ j : Nat, j ≤ n ∧ i = .int .i64 (j : Int) ∧ Below X.heap.size X wr) (fun _ i _ => n - (intOf i).toNat)
  case atStart => exact ⟨0, by omega, rfl, Below.refl _ _⟩
  case round =>
    obtain ⟨j, hj, rfl, hb⟩ := hrel
    by_cases hlt : j < n
    · have hd : decide (j < n) = true := by simpa using hlt
      have bk : (j : Int) < (n : Int) := by omega
      obtain ⟨y, hy⟩ : ∃ y, ts[j]? = some y := ⟨_, List.getElem?_eq_getElem (by rw [unhide HN]; exact hlt)⟩
      obtain ⟨b1, off1, rfl, hz1, hr1⟩ := EL.row tokC_len (by decide) ((unhide T1).below hb) hy
      obtain ⟨b2, off2, rfl, hz2, hr2⟩ := EL.row tokC_len (by decide) ((unhide T2).below hb) hy
      have hC : ∀ d os, Below X.heap.size X (Sort.grow (redrawn wr d) os) := fun d os => hb.trans ((below_regrown wr d os).mono hb.size)
      have r1 : Hid (∀ w', (∃ p : Regrown, w' = Sort.grow (redrawn wr p.d) p.os) → w'.rangeAt b1 (off1 + j * 7) (tokC y)) := hide fun w' ⟨p, hp⟩ => by rw [hp]; exact rangeAt_belowP hr1 (below_regrown wr p.d p.os) hz1
      have r2 : Hid (∀ w', (∃ p : Regrown, w' = Sort.grow (redrawn wr p.d) p.os) → w'.rangeAt b2 (off2 + j * 7) (tokC y)) := hide fun w' ⟨p, hp⟩ => by rw [hp]; exact rangeAt_belowP hr2 (below_regrown wr p.d p.os) hz2
      have c1' : ∀ d os, (Sort.grow (redrawn wr d) os).cell? ⟨w.heap.size, 0, none⟩ = some (.slice (some ⟨b1, off1, none⟩) n c1) := fun d os => ((unhide CL) _ (hC d os)).1.1
      have c2' : ∀ d os, (Sort.grow (redrawn wr d) os).cell? ⟨w.heap.size + 1, 0, none⟩ = some (.slice (some ⟨b2, off2, none⟩) n c3) := fun d os => ((unhide CL) _ (hC d os)).2.1
      have hsz : (Tryd.prog.info? 38).map (·.size) = some (tokC y).length := tokSz y
      have hne : ∀ W, (binOp .neq 38 (.agg (tokC y).toArray) (.agg (tokC y).toArray)).run Tryd.prog W = .ok (.bool false) W := fun W => tok_neq y W
      generalize tokC y = C at *
      clear hy hC hr1 hr2 hz1 hz2
      go_wp2_with fail
      refine wp_region_below mixed (by kernel_rfl) ?_
      quiet_step (fail)
      quiet_step (fail)
      quiet_step (fail)
      quiet_step (fail)
      refine wpQuiet_load_mid rfl 38 (.tmp 32) rfl b1 (off1 + j * 7) rfl C _ (unhide r1) Tryd.underlying38 rfl hsz ?_
      quiet_step (fail)
      quiet_step (fail)
      quiet_step (fail)
      quiet_step (fail)
      refine wpQuiet_load_mid rfl 38 (.tmp 37) rfl b2 (off2 + j * 7) rfl C _ (unhide r2) Tryd.underlying38 rfl hsz ?_
      quiet_step (fail)
      refine wpQuiet_nil ?_
      intro w3 hb3
      clear hne r1 r2 c1' c2' hsz
      go_wp2
      go_roundw
      case rel => exact ⟨j + 1, by omega, by go_num, hb.trans (hb3.mono hb.size)⟩
      case measure => simp [intOf]; omega
    · have hd : decide (j < n) = false := by simpa using hlt
      have k01 := ((unhide CL) wr hb).1.2
      have BX := hide hb
      clear hlt hb
      go_wp2
      clear k01 hd
      go_loopw [6, 44] (fun _ i wr => ∃ j : Nat, j ≤ m ∧ i = .int .i64 (j : Int) ∧ Below X.heap.size X wr) (fun _ i _ => m - (intOf i).toNat)
      case atStart => exact ⟨0, by omega, rfl, unhide BX⟩
      case round =>
        obtain ⟨j2, hj2, rfl, hb⟩ := hrel
        by_cases hlt : j2 < m
        · have hd : decide (j2 < m) = true := by simpa using hlt
          have bk : (j2 : Int) < (m : Int) := by omega
          obtain ⟨y, hy⟩ : ∃ y, hs[j2]? = some y := ⟨_, List.getElem?_eq_getElem (by rw [unhide HM]; exact hlt)⟩
          obtain ⟨b1, off1, rfl, hz1, hr1⟩ := EL.row holC_len (by decide) ((unhide H1).below hb) hy
          obtain ⟨b2, off2, rfl, hz2, hr2⟩ := EL.row holC_len (by decide) ((unhide H2).below hb) hy
          have hC : ∀ d os, Below X.heap.size X (Sort.grow (redrawn wr d) os) := fun d os => hb.trans ((below_regrown wr d os).mono hb.size)
          have r1 : Hid (∀ w', (∃ p : Regrown, w' = Sort.grow (redrawn wr p.d) p.os) → w'.rangeAt b1 (off1 + j2 * 4) (holC y)) := hide fun w' ⟨p, hp⟩ => by rw [hp]; exact rangeAt_belowP hr1 (below_regrown wr p.d p.os) hz1
          have r2 : Hid (∀ w', (∃ p : Regrown, w' = Sort.grow (redrawn wr p.d) p.os) → w'.rangeAt b2 (off2 + j2 * 4) (holC y)) := hide fun w' ⟨p, hp⟩ => by rw [hp]; exact rangeAt_belowP hr2 (below_regrown wr p.d p.os) hz2
          have c1' : ∀ d os, (Sort.grow (redrawn wr d) os).cell? ⟨w.heap.size, 1, none⟩ = some (.slice (some ⟨b1, off1, none⟩) m c2) := fun d os => ((unhide CL) _ (hC d os)).1.2
          have c2' : ∀ d os, (Sort.grow (redrawn wr d) os).cell? ⟨w.heap.size + 1, 1, none⟩ = some (.slice (some ⟨b2, off2, none⟩) m c4) := fun d os => ((unhide CL) _ (hC d os)).2.2
          have hsz : (Tryd.prog.info? 75).map (·.size) = some (holC y).length := sizeH y
          have hne : ∀ W, (binOp .neq 75 (.agg (holC y).toArray) (.agg (holC y).toArray)).run Tryd.prog W = .ok (.bool false) W := fun W => hol_neq y W
          generalize holC y = C at *
          clear hy hC hr1 hr2 hz1 hz2
          go_wp2_with fail
          refine wp_region_below mixed (by kernel_rfl) ?_
          quiet_step (fail)
          quiet_step (fail)
          quiet_step (fail)
          quiet_step (fail)
          refine wpQuiet_load_mid rfl 75 (.tmp 50) rfl b1 (off1 + j2 * 4) rfl C _ (unhide r1) Tryd.underlying75 rfl hsz ?_
          quiet_step (fail)
          quiet_step (fail)
          quiet_step (fail)
          quiet_step (fail)
          refine wpQuiet_load_mid rfl 75 (.tmp 55) rfl b2 (off2 + j2 * 4) rfl C _ (unhide r2) Tryd.underlying75 rfl hsz ?_
          quiet_step (fail)
          refine wpQuiet_nil ?_
          intro w3 hb3
          clear hne r1 r2 c1' c2' hsz
          go_wp2
          go_roundw
          case rel => exact ⟨j2 + 1, by omega, by go_num, hb.trans (hb3.mono hb.size)⟩
          case measure => simp [intOf]; omega
        · have hd : decide (j2 < m) = false := by simpa using hlt
          have F := hide ((unhide B0).trans (hb.mono (unhide B0).size))
          go_wp2
          go_ret
          exact ⟨rfl, unhide F⟩
end Go.Proofs.YtjfnaedcdmmigaaDoor

namespace Go.Proofs.YtjfnaedcdmmigaaDoor
open Go Go.RowKit
set_option linter.unusedSimpArgs false
set_option linter.unusedVariables false

theorem PM_nilB (w : World) : PM w (.agg #[.slice none 0 0, .slice none 0 0]) [] [] := ⟨none, 0, none, 0, rfl, fun h => absurd rfl h, fun h => absurd rfl h⟩
def aTok : Tkn := ⟨1, [97], 1, 0, 0, 0, 0⟩
theorem aw_enlist : pEnlist [] 1 [97] 1 = ([aTok], 0) := by
  have : pRight [97] = true := by decide +kernel
  simp [pEnlist, this, aTok]
theorem aw_mint2 : pMint [aTok] [] 1 [97] [98] 2 = ([aTok], [], 12) := by simp [pMint, pKn, isT, aTok]
theorem aw_mint1 : pMint [aTok] [] 1 [97] [98] 1 = ([⟨1, [97], 1, 0, 0, 1, 0⟩], [⟨1, [97], [98], 1⟩], 0) := by
  have : pRight [98] = true := by decide +kernel
  simp [pMint, pKn, isT, aTok, pGB, pGrant, pHe, pWith, this, pSetT, List.findIdx, List.findIdx.go]
theorem aw_held : pHe [⟨1, [97], [98], 1⟩] 1 [97] [98] = 1 := by simp [pHe, isH]
set_option maxHeartbeats 4000000 in
set_option maxRecDepth 1000000 in
theorem awake14_calls (w : World) (hU : UTabs w) : Calls Tryd.prog 7 #[] w fun e w' => e = .returned (.bool true) ∧ Below w.heap.size w w' := by
  have aok : ∀ t ∈ [aTok], t.ok := fun t ht => by simp at ht; subst ht; exact ⟨by decide, by decide, by decide, by decide, by decide, by decide, by decide⟩
  have CE : Hid (∀ W, UTabs W → Calls Tryd.prog 23 #[.agg #[.slice none 0 0, .slice none 0 0], .int .u32 1, .string ⟨#[97]⟩, .int .u64 1] W fun e w' => (∃ v', e = .returned (.tuple #[v', .int .i64 0]) ∧ PO w' W.heap.size v' [aTok] []) ∧ Below W.heap.size W w') := hide fun W t => by
    have c := enlist_calls [] [] (by simp) (by simp) (by simp) (.agg #[.slice none 0 0, .slice none 0 0]) 1 [97] (by decide) 1 W t (PM_nilB W)
    rw [aw_enlist] at c
    exact c
  have CM2 : Hid (∀ v W, UTabs W → PM W v [aTok] [] → Calls Tryd.prog 20 #[v, .int .u32 1, .string ⟨#[97]⟩, .string ⟨#[98]⟩, .int .u64 2] W fun e w' => (∃ v', e = .returned (.tuple #[v', .int .i64 12]) ∧ PO w' W.heap.size v' [aTok] []) ∧ Below W.heap.size W w') := hide fun v W t hP => by
    have c := mint_calls [aTok] [] (by simp) (by simp) aok (by simp) v 1 [97] [98] (by decide) (by decide) 2 (by decide) W t hP
    rw [aw_mint2] at c
    exact c
  have CM1 : Hid (∀ v W, UTabs W → PM W v [aTok] [] → Calls Tryd.prog 20 #[v, .int .u32 1, .string ⟨#[97]⟩, .string ⟨#[98]⟩, .int .u64 1] W fun e w' => (∃ v', e = .returned (.tuple #[v', .int .i64 0]) ∧ PO w' W.heap.size v' [⟨1, [97], 1, 0, 0, 1, 0⟩] [⟨1, [97], [98], 1⟩]) ∧ Below W.heap.size W w') := hide fun v W t hP => by
    have c := mint_calls [aTok] [] (by simp) (by simp) aok (by simp) v 1 [97] [98] (by decide) (by decide) 1 (by decide) W t hP
    rw [aw_mint1] at c
    exact c
  have CH : Hid (∀ v W, PM W v [⟨1, [97], 1, 0, 0, 1, 0⟩] [⟨1, [97], [98], 1⟩] → Calls Tryd.prog 27 #[v, .int .u32 1, .string ⟨#[97]⟩, .string ⟨#[98]⟩] W fun e w' => e = .returned (.int .u64 1) ∧ Below W.heap.size W w') := hide fun v W hP => by
    have c := heldN_calls [⟨1, [97], 1, 0, 0, 1, 0⟩] [⟨1, [97], [98], 1⟩] (by simp) (by simp) v 1 [97] [98] W hP
    rw [aw_held] at c
    exact c
  have PS := hide fun v1 v2 => purSz v1 v2
  have HU := hide hU
  have UW : Hid (∀ W, Below w.heap.size w W → UTabs W) := hide fun W hW => hU.below' hW
  have bz : Tryd.prog.built 27 [] = some #[.slice none 0 0, .slice none 0 0] := by kernel_rfl
  generalize [aTok] = TA at *
  clear hU aok
  go_enter Tryd.func7, Tryd.ntmps7
  go_wp2_with fail
  refine (unhide CE _ (unhide HU)).mono ?_
  rintro e w1 ⟨⟨v', rfl, po⟩, b1⟩
  have pm := po.mem
  obtain ⟨x1, x2, rfl, one⟩ := po.parts
  have B1 := hide b1
  have PM1 := hide pm
  clear b1 po CE pm
  go_upto_region 2 with (refine wpList_store_newV rfl 27 (.tmp 1) (.tmp 10) rfl w1 #[.slice none 0 0, .slice none 0 0] _ #[x1, x2] rfl rfl (unhide PS _ _) rfl one ?_; intro w3 q3 b3 z3)
  have B3 := hide ((unhide B1).trans (b3.mono (unhide B1).size))
  have PM3 := hide ((unhide PM1).below b3)
  have Q3 := hide q3
  clear b3 z3 B1 PM1
  go_wp2_with (refine wpList_load_row rfl 27 (.tmp 1) rfl w1.heap.size rfl 27 _ (0, 0) _ q3 Tryd.underlying27 rfl (unhide PS _ _) ?_)
  refine (unhide CM2 _ _ (unhide UW _ (unhide B3)) (unhide PM3)).mono ?_
  rintro e w4 ⟨⟨v4, rfl, po⟩, b4⟩
  obtain ⟨y1, y2, rfl, one4⟩ := po.parts
  have B4 := hide ((unhide B3).trans (b4.mono (unhide B3).size))
  have PM4 := hide ((unhide PM3).below b4)
  have Q4 := hide (Below.at b4 (Array.getElem?_eq_some_iff.1 (unhide Q3)).1 (unhide Q3))
  clear po b4 B3 PM3 Q3 CM2 q3
  go_upto_region 3 with (refine wpList_store_newV rfl 27 (.tmp 3) (.tmp 15) rfl w4 #[.slice none 0 0, .slice none 0 0] _ #[y1, y2] rfl rfl (unhide PS _ _) rfl one4 ?_; intro w5 q5 b5 z5)
  have B5 := hide ((unhide B4).trans (b5.mono (unhide B4).size))
  have PM5 := hide ((unhide PM4).below b5)
  have q6 := Below.at b5 (Array.getElem?_eq_some_iff.1 (unhide Q4)).1 (unhide Q4)
  clear q5 b5 z5 B4 PM4 Q4
  go_wp2_with (refine wpList_load_row rfl 27 (.tmp 1) rfl w1.heap.size rfl 27 _ (0, 0) _ q6 Tryd.underlying27 rfl (unhide PS _ _) ?_)
  refine (unhide CM1 _ _ (unhide UW _ (unhide B5)) (unhide PM5)).mono ?_
  rintro e w7 ⟨⟨v7, rfl, po⟩, b7⟩
  have pm := po.mem
  obtain ⟨z1, z2, rfl, one7⟩ := po.parts
  have B7 := hide ((unhide B5).trans (b7.mono (unhide B5).size))
  have PM7 := hide pm
  clear po b7 pm B5 PM5 CM1 q6
  go_upto_region 4 with (refine wpList_store_newV rfl 27 (.tmp 5) (.tmp 20) rfl w7 #[.slice none 0 0, .slice none 0 0] _ #[z1, z2] rfl rfl (unhide PS _ _) rfl one7 ?_; intro w8 q8 b8 z8)
  have B8 := hide ((unhide B7).trans (b8.mono (unhide B7).size))
  have PM8 := hide ((unhide PM7).below b8)
  clear b8 z8 B7 PM7
  go_wp2_with (refine wpList_load_row_gd rfl 27 (.tmp 5) rfl w7.heap.size rfl 27 _ (0, 0) _ q8 Tryd.underlying27 rfl (unhide PS _ _) ?_)
  refine (unhide CH _ _ (unhide PM8)).mono ?_
  rintro e w9 ⟨rfl, b9⟩
  have B9 := hide ((unhide B8).trans (b9.mono (unhide B8).size))
  clear b9 B8 CH q8
  go_wp2
  go_ret
  exact ⟨rfl, unhide B9⟩
set_option maxHeartbeats 4000000 in
set_option maxRecDepth 1000000 in
/-- The closure of PurseBack: a purse of the same holdings. -/
theorem holdOnly_calls (ts : List Tkn) (hs : List Hol) (u1 u2 : Value) (w : World) (hP : PM w (.agg #[u1, u2]) ts hs) :
    Calls Tryd.prog 17 #[.agg #[u1, u2]] w fun e w' => e = .returned (.agg #[.slice none 0 0, u2]) ∧ Below w.heap.size w w' := by
  obtain ⟨p1, c1, p2, c2, hu, hT, hH⟩ := hP
  simp only [Value.agg.injEq, Array.mk.injEq, List.cons.injEq, and_true] at hu
  obtain ⟨rfl, rfl⟩ := hu
  obtain ⟨q0, q1⟩ := al2 w (.cells #[.slice p1 ts.length c1, .slice p2 hs.length c2] 27) (.cells zPur 27)
  have b0 := bel2 w (.cells #[.slice p1 ts.length c1, .slice p2 hs.length c2] 27) (.cells zPur 27)
  have hH2 := hide (hH.below b0)
  obtain ⟨X, hX⟩ : ∃ X, (w.alloc (.cells #[.slice p1 ts.length c1, .slice p2 hs.length c2] 27)).alloc (.cells zPur 27) = X := ⟨_, rfl⟩
  have HX := hide hX
  rw [hX] at q0 q1 b0 hH2
  have k1 : X.cell? ⟨w.heap.size, 1, none⟩ = some (.slice p2 hs.length c2) := by rw [cell_of_row _ _ _ _ _ _ q0]; rfl
  have B0 := hide b0
  have hz : w.heap.size + 1 < X.heap.size := (Array.getElem?_eq_some_iff.1 q1).1
  have F2 : Hid (∀ C : Array Value, Below w.heap.size w (X.setRow (w.heap.size + 1) C)) := hide fun C => b0.trans (below_setRow (Below.refl _ _) (by omega) _)
  have PS := hide fun v1 v2 => purSz v1 v2
  have one : ∀ m, (#[Value.slice none 0 0, .slice p2 m c2] : Array Value).all (·.oneCell') = true := fun m => two_one _ _ rfl rfl
  have hb1 : ∀ m, Tryd.prog.built 27 [(1, .slice p2 m c2)] = some #[.slice none 0 0, .slice p2 m c2] := fun m => by kernel_rfl
  obtain ⟨m, hm⟩ : ∃ m, hs.length = m := ⟨_, rfl⟩
  rw [hm] at k1 q0
  clear hT hH hX b0 hH2 hz
  rw [hm] at HX ⊢
  clear hm q0
  go_enter Tryd.func17, Tryd.ntmps17
  go_upto_region 1 with fail
  change Code.wp _ _ _ _ ((w.alloc (.cells #[.slice p1 ts.length c1, .slice p2 m c2] 27)).alloc (.cells zPur 27))
  rw [unhide HX]
  go_wp2_with (first
    | (refine wpList_store_row rfl 27 (.tmp 2) (.tmp 5) rfl (w.heap.size + 1) _ rfl rfl 27 _ q1 (unhide PS _ _) rfl (one m) ?_))
  exact bodyPost_ret (results_cell_row rfl _ _ (w.heap.size + 1) _ _ _ _ rfl (setRow_heap _ _ _ _ _ _ q1) Tryd.underlying27 rfl (unhide PS _ _)) rfl ⟨rfl, unhide F2 _⟩
theorem PM_only {w : World} {ts : List Tkn} {hs : List Hol} {u1 u2 : Value} (h : PM w (.agg #[u1, u2]) ts hs) : PM w (.agg #[.slice none 0 0, u2]) [] hs := by
  obtain ⟨p1, c1, p2, c2, hu, hT, hH⟩ := h
  simp only [Value.agg.injEq, Array.mk.injEq, List.cons.injEq, and_true] at hu
  obtain ⟨rfl, rfl⟩ := hu
  exact ⟨none, 0, p2, c2, rfl, fun h => absurd rfl h, hH⟩
end Go.Proofs.YtjfnaedcdmmigaaDoor
