/-
  THE DOCUMENT's node AND Root OF LAYER 6 WITH ITS LOG.
-/
/-
  A LIST OF DIGESTS OF ONE'S OWN THAT GROWS BY append.
-/
/-
  AN UPDATE AND A STOP AS ROWS; A PART OF A ROW STORED.
-/
/-
  THE DOCUMENT's New OF LAYER 6 WITH ITS LOG.
-/
/-
  UNLIKE DOMAINS OR PARTS HAVE UNLIKE INPUTS.
-/
/-
  WHAT A LOG WITHOUT A CLASH SAYS OF A KEY's WORD AND OF WHAT IS OPENED.
-/
/-
  WHAT A LOG WITHOUT A CLASH SAYS OF A SIGNATURE THAT IS VERIFIED UNDER A SIGNER's ROOT.
-/
/-
  THE DOCUMENT's Right (layer 10) WITH ITS LOG.
-/
/-
  THE DOCUMENT's Root OF LAYER 6 WITH ITS LOG.
-/
/-
  slices.Clone OF A LIST OF DIGESTS, by the library's contract.
-/
import Derived.Test.YtdkaphebdkdfhaaDoorJ6
import Derived.Test.YtdkaphebdkdfhaaDoorJ5
import Derived.Test.YtdkaphebdkdfhaaDoorJ3
import Derived.Test.YtdkaphebdkdfhaaDoorJ4
import Derived.Maps.AppendAt
import Derived.Test.YtdkaphebdkdfhaaDoorJ1
import Derived.Shelf.SlicesE.Clone
namespace Go.Proofs.YtdkaphebdkdfhaaDoor
open Go Go.RowKit
set_option linter.unusedSimpArgs false
set_option linter.unusedVariables false

/-- The inputs of all nodes below one. -/
def KNoted (ds : List (List UInt8)) : Nat → Nat → List (List UInt8) → Prop
  | 0, _, _ => True
  | k + 1, x, I => rIn ((kLev ds k).getD (2 * x) []) ((kLev ds k).getD (2 * x + 1) []) ∈ I ∧ KNoted ds k (2 * x) I ∧ KNoted ds k (2 * x + 1) I
theorem KNoted.mono {ds : List (List UInt8)} : ∀ {k x : Nat} {I J : List (List UInt8)}, KNoted ds k x I → (∀ s ∈ I, s ∈ J) → KNoted ds k x J
  | 0, _, _, _, _, _ => trivial
  | k + 1, x, I, J, ⟨h1, h2, h3⟩, hs => ⟨hs _ h1, h2.mono hs, h3.mono hs⟩
theorem pow16 (k : Nat) (h : k + 1 ≤ 4) : 16 / 2 ^ k = 2 * (16 / 2 ^ (k + 1)) := by
  have : k = 0 ∨ k = 1 ∨ k = 2 ∨ k = 3 := by omega
  rcases this with rfl | rfl | rfl | rfl <;> rfl
theorem lev_at (ds : List (List UInt8)) (hds : ds.length = 16) (h32 : ∀ d ∈ ds, d.length = 32) (k x : Nat) (hx : x < 16 / 2 ^ k) : ((kLev ds k).getD x []).length = 32 :=
  getD_32 (kLev_32 ds h32 k) x (by rw [kLev_length, hds]; exact hx)
theorem lev_succ (ds : List (List UInt8)) (hds : ds.length = 16) (k x : Nat) (hk : k + 1 ≤ 4) (hx : x < 16 / 2 ^ (k + 1)) : (kLev ds (k + 1)).getD x [] = pR ((kLev ds k).getD (2 * x) []) ((kLev ds k).getD (2 * x + 1) []) := by
  rw [kLev, pUp_at _ _ (by rw [kLev_length, hds]; have := pow16 k hk; omega)]
  rfl
set_option maxHeartbeats 4000000 in
set_option maxRecDepth 100000 in
theorem rnode6Q_calls (ds : List (List UInt8)) (hds : ds.length = 16) (h32 : ∀ d ∈ ds, d.length = 32) (pl : Option Addr) (cl : Nat) (L : Nat) : ∀ (k : Nat), k ≤ 4 → ∀ (x : Nat), x < 16 / 2 ^ k → ∀ (S : Nat → Prop) (I : List (List UInt8)) (hI : I.length + 2 ^ k ≤ 1099511627776) (w : World) (hL : RLogAt w L S I) (ol : Out pl S), DL w pl ds →
    Calls Tryd.prog 24 #[.pointer (some ⟨L, 0, none⟩), .slice pl 16 cl, .int .i64 (k : Int), .int .i64 (x : Int)] w fun e w' => e = .returned (.agg (bc ((kLev ds k).getD x []))) ∧ QS L S I (2 ^ k - 1) (KNoted ds k x) w w' := by
  intro k
  induction k with
  | zero =>
    intro hk x hx S I hI w hL ol hD
    have HLL := hide hL
    clear hL ol hI
    have a1 := al1 w (.cells (bc (List.replicate 32 0)) 23)
    have b1 := hide ((Below.refl w.heap.size w).alloc (Nat.le_refl _) (.cells (bc (List.replicate 32 0)) 23))
    have hx1 : x < 16 := by simpa using hx
    obtain ⟨X, hX⟩ : ∃ X, w.alloc (.cells (bc (List.replicate 32 0)) 23) = X := ⟨_, rfl⟩
    rw [hX] at a1 b1
    have HX := hide hX
    clear hX
    have hxl : x < ds.length := by omega
    obtain ⟨b, off, rfl, hbz, hc⟩ := hD.2 (by intro h; rw [h] at hxl; simp at hxl)
    have hr := rangeAt_below (hc x hxl) (unhide b1) hbz
    have hl0 := hD.len x hxl
    have est : (kLev ds 0).getD x [] = ds.getD x [] := rfl
    rw [est]
    obtain ⟨D, hDD⟩ : ∃ D, ds.getD x [] = D := ⟨_, rfl⟩
    rw [hDD] at hr hl0
    rw [hDD]
    have hi := digInfo D hl0
    have hz : Hid ((bc (List.replicate 32 (0 : UInt8))).size = (bc D).size) := by show _ = _; rw [bc_size, bc_size, hl0]; rfl
    have ho := bc_oneCell D
    have hl := hide hl0
    have HR := hide hr
    have b3 : (0 : Int) ≤ (x : Int) ∧ (x : Int) < 16 := by omega
    clear hr hc hD hDD hx hl0 est hxl
    go_enter Tryd.func24, Tryd.ntmps24
    go_upto_region 1 with fail
    change Code.wp _ _ _ _ (w.alloc (.cells (bc (List.replicate 32 0)) 23))
    rw [unhide HX]
    go_wp2_with (first
      | refine wpList_load_mid rfl 23 (.tmp 15) rfl b (off + x * 32) rfl (Lib.byteCells D) _ (unhide HR) Tryd.underlying23 rfl (by rw [Lib.byteCells_length, unhide hl]; kernel_rfl) ?_
      | refine wpList_store_row rfl 23 (.tmp 8) (.tmp 16) rfl w.heap.size (bc D) rfl rfl 23 _ a1 hi (unhide hz) ho ?_)
    exact bodyPost_ret (results_cell_row rfl _ _ w.heap.size _ _ _ _ rfl (setRow_heap _ _ _ _ _ _ a1) Tryd.underlying23 rfl hi) rfl ⟨rfl, QS.same (unhide HLL) (below_setRow (unhide b1) (Nat.le_refl _) _) trivial⟩
  | succ k ih =>
    intro hk x hx S I hI w hL ol hD
    have HLL := hide hL
    have HOLD := hide hL.old
    have OL := hide ol
    clear hL ol
    have a1 := al1 w (.cells (bc (List.replicate 32 0)) 23)
    have b1 := hide ((Below.refl w.heap.size w).alloc (Nat.le_refl _) (.cells (bc (List.replicate 32 0)) 23))
    have hpow : 2 ^ (k + 1) = 2 * 2 ^ k := by rw [Nat.pow_succ]; omega
    have hpos : 1 ≤ 2 ^ k := Nat.one_le_two_pow
    have h16 := pow16 k hk
    have hb16 : 16 / 2 ^ k ≤ 16 := Nat.div_le_self _ _
    have hx1 : 2 * x + 1 < 16 := by omega
    have c1 := fun S I hI w hL ol => ih (by omega) (2 * x) (by omega) S I hI w hL ol
    have c2 := fun S I hI w hL ol => ih (by omega) (2 * x + 1) (by omega) S I hI w hL ol
    have HNt : Hid (∀ J, rIn ((kLev ds k).getD (2 * x) []) ((kLev ds k).getD (2 * x + 1) []) ∈ J → KNoted ds k (2 * x) J → KNoted ds k (2 * x + 1) J → KNoted ds (k + 1) x J) := hide fun J h1 h2 h3 => ⟨h1, h2, h3⟩
    have HCt : Hid (2 ^ (k + 1) - 1 = (2 ^ k - 1) + (2 ^ k - 1) + 1) := hide (by omega)
    obtain ⟨CC, hCC⟩ : ∃ C, 2 ^ (k + 1) - 1 = C := ⟨_, rfl⟩
    rw [hCC] at HCt ⊢
    have HI2 : Hid (I.length + 2 ^ k + 2 ^ k ≤ 1099511627776) := hide (by omega)
    clear hI
    have est := lev_succ ds hds k x hk hx
    have hl1 := lev_at ds hds h32 k (2 * x) (by omega)
    have hl2 := lev_at ds hds h32 k (2 * x + 1) (by omega)
    have hlt' := lev_at ds hds h32 (k + 1) x hx
    obtain ⟨K2, hK2⟩ : ∃ C, 2 ^ k = C := ⟨_, rfl⟩
    have HK1 : Hid (1 ≤ K2) := hide (by rw [← hK2]; exact hpos)
    rw [hK2] at HCt HI2 c1 c2
    obtain ⟨K, hK⟩ : ∃ K, k + 1 = K := ⟨_, rfl⟩
    have hK1 : (K : Int) - 1 = (k : Int) := by omega
    have hK0 : ((K : Int) == 0) = false := by simp; omega
    have hKb : K ≤ 4 := by omega
    obtain ⟨y, hy⟩ : ∃ y, 2 * x = y := ⟨_, rfl⟩
    have hy1 : 2 * (x : Int) = (y : Int) := by omega
    obtain ⟨y1, hy2⟩ : ∃ y1, y + 1 = y1 := ⟨_, rfl⟩
    have hy3 : (y : Int) + 1 = (y1 : Int) := by omega
    have hyb : y1 < 16 := by omega
    rw [hy] at c1 c2 HNt est hl1 hl2
    rw [hy2] at c2 HNt est hl2
    rw [est] at hlt'
    have HNE : Hid (ds ≠ []) := hide (by intro h; rw [h] at hds; simp at hds)
    rw [est]
    rw [hK] at HNt
    rw [hK]
    obtain ⟨X, hX⟩ : ∃ X, w.alloc (.cells (bc (List.replicate 32 0)) 23) = X := ⟨_, rfl⟩
    rw [hX] at a1 b1
    have HX := hide hX
    have zX := hide (Array.getElem?_eq_some_iff.1 a1).1
    have hDX := hide (hD.below (unhide b1) (Nat.le_refl _))
    have cT := fun L S I hI W hL => rR2Q_calls _ _ hl1 hl2 L S I hI W hL
    have eR : ∀ a b, pOf 4 [a, b] = pR a b := fun a b => rfl
    simp only [eR] at cT
    obtain ⟨D1, hD1⟩ : ∃ D, (kLev ds k).getD y [] = D := ⟨_, rfl⟩
    obtain ⟨D2, hD2⟩ : ∃ D, (kLev ds k).getD y1 [] = D := ⟨_, rfl⟩
    rw [hD1] at c1 hl1 HNt
    rw [hD2] at c2 hl2 HNt
    rw [hD1, hD2] at hlt' cT
    rw [hD1, hD2]
    obtain ⟨D3, hD3⟩ : ∃ D, pR D1 D2 = D := ⟨_, rfl⟩
    rw [hD3] at hlt' cT
    rw [hD3]
    have hi1 := digInfo D1 hl1
    have hi2 := digInfo D2 hl2
    have hi3 := digInfo D3 hlt'
    have hz1 := zeroSize D1 hl1
    have hz2 := zeroSize D2 hl2
    have hz3 : Hid ((bc (List.replicate 32 (0 : UInt8))).size = (bc D3).size) := by show _ = _; rw [bc_size, bc_size, hlt']; rfl
    have ho3 := bc_oneCell D3
    have C1 := hide c1
    have C2 := hide c2
    have CT := hide cT
    have LX : Hid (RLogAt X L S I) := hide ((unhide HLL).below (unhide b1))
    clear hX hpow hpos hy hy2 ih hx hK2 hCC hD hD1 hD2 hD3 c1 c2 cT est hl1 hl2 hlt' hK eR h16 hb16
    go_enter Tryd.func24, Tryd.ntmps24
    go_upto_region 1 with fail
    change Code.wp _ _ _ _ (w.alloc (.cells (bc (List.replicate 32 0)) 23))
    rw [unhide HX]
    go_wp2_with fail
    refine (unhide C1 S I (by have := unhide HI2; omega) _ (unhide LX) (unhide OL) (unhide hDX)).mono ?_
    rintro e w3 ⟨rfl, S3, I3, L3, B3, M3, mo3, nt3, le3⟩
    have p0 := (B3.block _ (unhide zX) (fun h => by have := unhide HOLD _ h; omega)).trans a1
    have z3 := hide (Nat.lt_of_lt_of_le (unhide zX) B3.size)
    have dD := hide ((unhide hDX).rbut B3 (fun _ => unhide OL))
    have OL3 := hide (Out.step (unhide OL) (unhide hDX) M3 (unhide HNE))
    have N3 : Hid (¬ S3 w.heap.size) := hide fun h => by rcases M3 _ h with h | h; have := unhide HOLD _ h; omega; have := unhide zX; omega
    have P0 := hide p0
    have HL3 := hide L3
    have HB3 := hide B3
    have HM3 := hide M3
    have Hmo3 := hide mo3
    have Hnt3 := hide nt3
    have Hle3 := hide le3
    clear p0 B3 C1 a1 hDX L3 M3 mo3 nt3 le3 OL
    go_wp2_with (refine wpList_store_new rfl 23 (.tmp 9) (.tmp 23) rfl w3 _ _ D1 rfl rfl hi1 hz1 ?_; intro w4 q4 b4 y4; have P4 := hide (Below.at b4 (unhide z3) (unhide P0)); have dD4 := hide ((unhide dD).below b4 (Nat.le_refl _)); have L4 := hide ((unhide HL3).below b4); have B4 := hide ((unhide HB3).then_below b4 (unhide HB3).size); clear b4 P0 dD)
    have Q4 := hide q4
    have z4 := hide (Array.getElem?_eq_some_iff.1 q4).1
    have G4 : Hid (¬ S3 w3.heap.size) := hide fun h => by have := (unhide HL3).old _ h; omega
    obtain ⟨G1, hG1⟩ : ∃ G, w3.heap.size = G := ⟨_, rfl⟩
    rw [hG1] at Q4 z4 z3 G4
    simp only [hG1]
    clear q4 y4 hG1
    refine (unhide C2 S3 I3 (by have := unhide HI2; have := unhide Hle3; omega) _ (unhide L4) (unhide OL3) (unhide dD4)).mono ?_
    rintro e w5 ⟨rfl, S5, I5, L5, B5, M5, mo5, nt5, le5⟩
    have z4' : w.heap.size < w4.heap.size := Nat.lt_trans (unhide z3) (unhide z4)
    have P5 := hide ((B5.block _ z4' (unhide N3)).trans (unhide P4))
    have Q5 := hide ((B5.block _ (unhide z4) (unhide G4)).trans (unhide Q4))
    have z5 := hide (Nat.lt_of_lt_of_le (unhide z4) B5.size)
    have N5 : Hid (¬ S5 w.heap.size) := hide fun h => by rcases M5 _ h with h | h; exact unhide N3 h; omega
    have G5 : Hid (¬ S5 G1) := hide fun h => by rcases M5 _ h with h | h; exact unhide G4 h; have := unhide z4; omega
    have BX5 := hide ((unhide B4).trans B5 (unhide HM3))
    have MX5 : Hid (∀ k, S5 k → S k ∨ X.heap.size ≤ k) := hide fun k h => (M5 k h).elim (unhide HM3 k) (fun h2 => .inr (Nat.le_trans (unhide B4).size h2))
    have HL5 := hide L5
    have Hmo5 := hide mo5
    have Hnt5 := hide nt5
    have Hle5 := hide le5
    clear B5 z4' C2 dD4 P4 Q4 B4 HB3 L5 M5 mo5 nt5 le5 L4 HL3 HM3 G4 N3 OL3
    go_wp2_with (first
      | (refine wpList_store_new rfl 23 (.tmp 10) (.tmp 31) rfl w5 _ _ D2 rfl rfl hi2 hz2 ?_; intro w6 q6 b6 y6; have Q6 := hide (Below.at b6 (unhide z5) (unhide Q5)); have P6 := hide (Below.at b6 (Nat.lt_trans (unhide z3) (unhide z5)) (unhide P5)); have L6 := hide ((unhide HL5).below b6); have B6 := hide ((unhide BX5).then_below b6 (unhide BX5).size); clear b6 P5 Q5)
      | refine wpList_load_row rfl 23 (.tmp 9) rfl G1 rfl 23 _ (0, 0) _ (unhide Q6) Tryd.underlying23 rfl hi1 ?_
      | refine wpList_load_row rfl 23 (.tmp 10) rfl w5.heap.size rfl 23 _ (0, 0) _ q6 Tryd.underlying23 rfl hi2 ?_)
    have z6 : w.heap.size < w6.heap.size := Nat.lt_trans (Nat.lt_trans (unhide z3) (unhide z5)) (Array.getElem?_eq_some_iff.1 q6).1
    refine (unhide CT L S5 I5 (by have := unhide HI2; have := unhide Hle3; have := unhide Hle5; have := unhide HK1; omega) _ (unhide L6)).mono ?_
    rintro e w7 ⟨rfl, S7, L7, B7, M7⟩
    have P7 := (B7.block _ z6 (unhide N5)).trans (unhide P6)
    have BX7 := hide ((unhide B6).trans B7 (unhide MX5))
    have N7 : ¬ S7 w.heap.size := fun h => by rcases M7 _ h with h | h; exact unhide N5 h; omega
    have MX7 : Hid (∀ k, S7 k → S k ∨ w.heap.size ≤ k) := hide fun k h => (M7 k h).elim (fun h => (unhide MX5 k h).imp_right (fun h2 => by have := (unhide b1).size; omega)) (fun h2 => .inr (by omega))
    have HL7 := hide (L7.kept (w' := w7.setRow w.heap.size (bc D3)) (fun k hk => setRow_other _ _ _ _ (fun e => N7 (by rw [← e]; exact hk))) (by rw [setRow_size]; exact Nat.le_refl _))
    clear z6 P6 q6 y6 CT B7 M7 L7 N7
    go_wp2_with (refine wpList_store_row rfl 23 (.tmp 8) (.tmp 35) rfl w.heap.size (bc D3) rfl rfl 23 _ P7 hi3 (unhide hz3) ho3 ?_)
    refine bodyPost_ret (results_cell_row rfl _ _ w.heap.size _ _ _ _ rfl (setRow_heap _ _ _ _ _ _ P7) Tryd.underlying23 rfl hi3) rfl ⟨rfl, S7, rnoted (rIn D1 D2) I5, unhide HL7, ?_, unhide MX7, ?_, ?_, ?_⟩
    · have r := unhide BX7
      have rb := unhide b1
      exact ⟨r.os.trans rb.os, r.tape.trans rb.tape, r.output.trans rb.output, by rw [setRow_size]; exact Nat.le_trans rb.size r.size, fun k hk hn => (setRow_other _ _ _ _ (by omega)).trans ((r.block k (Nat.lt_of_lt_of_le hk rb.size) hn).trans (rb.block k hk))⟩
    · exact fun s h => mem_rnoted_old _ _ _ (unhide Hmo5 s (unhide Hmo3 s h))
    · exact unhide HNt _ (mem_rnoted _ _) ((unhide Hnt3).mono (fun s h => mem_rnoted_old _ _ _ (unhide Hmo5 s h))) ((unhide Hnt5).mono (fun s h => mem_rnoted_old _ _ _ h))
    · have := rnoted_le (rIn D1 D2) I5
      have := unhide Hle3
      have := unhide Hle5
      have := unhide HCt
      have := unhide HK1
      omega
end Go.Proofs.YtdkaphebdkdfhaaDoor

namespace Go.Proofs.YtdkaphebdkdfhaaDoor
open Go Go.RowKit
set_option linter.unusedSimpArgs false
set_option linter.unusedVariables false

theorem DL_of_ownsD {B : Nat} {w : World} {t : TypeId} {v : Value} {n : Nat} (f : Nat → List UInt8) (hf : ∀ j, (f j).length = 32) (h : w.ownsRow B t 32 v n (Lib.byteCells ((List.range n).flatMap f))) : ∃ p c, v = .slice p n c ∧ n ≤ c ∧ DL w p ((List.range n).map f) := by
  obtain ⟨h1, h2⟩ := h
  rcases h2 with ⟨rfl, rfl⟩ | ⟨g, cap, cur, rfl, hB, hg, hc, hm, hs, ht⟩
  · exact ⟨none, 0, rfl, Nat.le_refl _, ⟨fun d hd => by simp at hd, fun hn => absurd rfl hn⟩⟩
  · refine ⟨_, cap, rfl, hc, ⟨fun d hd => ?_, fun hn => ⟨g, 0, rfl, (Array.getElem?_eq_some_iff.1 hg).1, fun i hi => ?_⟩⟩⟩
    · obtain ⟨j, _, rfl⟩ := List.mem_map.1 hd; exact hf j
    · have hi' : i < n := by simpa using hi
      intro j v hv
      rw [cell_of_row _ _ _ _ _ _ hg]
      have hj : j < 32 := by
        have := (List.getElem?_eq_some_iff.1 hv).1
        rw [Lib.byteCells_length] at this
        simpa [hi', hf] using this
      have e1 : cur[0 + i * 32 + j]? = (cur.toList.take (n * 32))[i * 32 + j]? := by
        rw [List.getElem?_take, if_pos (by omega), Array.getElem?_toList, Nat.zero_add]
      rw [e1, ht]
      have e2 := flat_at32 f hf n i hi'
      have e3 : ((List.range n).map f).getD i [] = f i := by simp [hi']
      rw [e3, ← e2] at hv
      rw [← hv]
      unfold Lib.byteCells
      rw [List.getElem?_map, List.getElem?_map, List.getElem?_take, if_pos hj, List.getElem?_drop]
theorem digRowInfoD : (Tryd.prog.info? 23).map (fun i => (i.size, i.bytes, i.zero.map (·.cells.size))) = some (32, 32, some 32) := by kernel_rfl
theorem flat_snocD (f : Nat → List UInt8) (k : Nat) : Lib.byteCells ((List.range (k + 1)).flatMap f) = Lib.byteCells ((List.range k).flatMap f) ++ (bc (f k)).toList := by
  rw [List.range_succ, List.flatMap_append]
  simp [Lib.byteCells, bc]
theorem wpList_append_rowD {P : Program} {ops : Array Oper} {rest : List Oper} {o : Oper} {a : Act} {Q : Exit → Act → World → Prop} (hgd : o.guard = none) (t e : TypeId) (sx x : Operand)
    (ho : o.op = .call { callee := .builtin .append, args := #[sx, x], argTypes := #[t, t] }) (s b : Nat) (hs : 0 < s) (hb2 : b ≤ 100000) (hu : P.underlying t = some (.slice e)) (hi : (P.info? e).map (fun i => (i.size, i.bytes, i.zero.map (·.cells.size))) = some (s, b, some s))
    (B : Nat) (v : Value) (n : Nat) (xs : List Value) (hv : a.eval sx = v) (wr : World) (hown : wr.ownsRow B e s v n xs) (hB : B ≤ wr.heap.size) (cs : Array Value) (hc : cs.size = s) (h1 : cs.all (·.oneCell') = true)
    (hx : a.eval x = .slice (some ⟨wr.heap.size, 0, none⟩) 1 1) (hlen : n + 1 ≤ 1048576)
    (h : ∀ v' w', w'.ownsRow B e s v' (n + 1) (xs ++ cs.toList) → Below B wr w' → (∀ k, k < wr.heap.size → some k ≠ v.ownBlock → w'.heap[k]? = wr.heap[k]?) → (v'.ownBlock = v.ownBlock ∨ ∃ g, v'.ownBlock = some g ∧ wr.heap.size ≤ g) → wpList P ops Q rest (a.put o.dst v') w') : wpList P ops Q (o :: rest) a (wr.alloc (.cells cs e)) := by
  obtain ⟨i, z, hie, hz, e1, e2, e3⟩ := rowInfo hi
  refine wpList_append_own_at _ hgd sx x t ho B e i z s b hu hie hz e1 e2 e3 hs v n xs hv (hown.alloc _) ⟨wr.heap.size, 0, none⟩ 1 1 cs.toList hx (by simp [hc]) ?_ ?_ (by unfold maxLen; omega) ?_ (by rw [World.size_alloc]; omega) ?_
  · intro j u hj
    rw [show (⟨wr.heap.size, 0, none⟩ : Addr).add j = ⟨wr.heap.size, j, none⟩ by unfold Addr.add; split <;> simp_all, cell_of_row _ _ _ _ _ _ (al1 wr (.cells cs e))]
    rw [← Array.getElem?_toList]; exact hj
  · intro u hu'
    exact Array.all_eq_true_iff_forall_mem.1 h1 u (Array.mem_toList_iff.1 hu')
  · exact Nat.le_trans (Nat.mul_le_mul hlen hb2) (by decide)
  · intro v' w' ho' hg _ hat
    have kept : ∀ k, k < wr.heap.size → some k ≠ v.ownBlock → w'.heap[k]? = wr.heap[k]? := fun k hk hn => (hg.block k (by rw [World.size_alloc]; omega) hn).trans (Below.heap_alloc wr _ k hk)
    refine h v' w' ho' ?_ kept (hat.imp_right (fun e => ⟨_, e, by rw [World.size_alloc]; omega⟩))
    have hA := (Below.refl B wr).alloc hB (.cells cs e)
    refine hA.trans ⟨hg.os, hg.tape, hg.output, hg.size, fun k hk => hg.block k (by rw [World.size_alloc]; omega) ?_⟩
    intro hc'
    have := (hown.lt k hc'.symm).1
    omega
end Go.Proofs.YtdkaphebdkdfhaaDoor

namespace Go.Proofs.YtdkaphebdkdfhaaDoor
open Go Go.RowKit
set_option linter.unusedSimpArgs false
set_option linter.unusedVariables false

/-- An update's cells. -/
def updc (home : Nat) (a b : List UInt8) (cs : Array Value) : Array Value := #[Value.int .u32 (home : Int)] ++ bc a ++ bc b ++ cs
theorem updc_size (home : Nat) (a b : List UInt8) (ha : a.length = 32) (hb : b.length = 32) (cs : Array Value) (hc : cs.size = 4) : (updc home a b cs).size = 69 := by simp [updc, bc_size, ha, hb, hc]
theorem updc_home (home : Nat) (a b : List UInt8) (cs : Array Value) : (updc home a b cs)[0]? = some (.int .u32 (home : Int)) := by simp [updc, Array.getElem?_append]
theorem updc_old (home : Nat) (a b : List UInt8) (ha : a.length = 32) (hb : b.length = 32) (cs : Array Value) (w : World) (g : Nat) (t : TypeId) (hg : w.heap[g]? = some (.cells (updc home a b cs) t (0, 0))) : w.rangeAt g 1 (Lib.byteCells a) := fun i u hu => by
  have hi : i < a.length := by have := (List.getElem?_eq_some_iff.1 hu).1; rwa [Lib.byteCells_length] at this
  rw [cell_of_row _ _ _ _ _ _ hg]
  unfold updc
  rw [Array.getElem?_append_left (by simp [bc_size, ha, hb]; omega), Array.getElem?_append_left (by simp [bc_size, ha]; omega), Array.getElem?_append_right (by simp)]
  rw [show 1 + i - (#[Value.int .u32 (home : Int)] : Array Value).size = i by simp]
  simpa [bc] using hu
theorem updc_new (home : Nat) (a b : List UInt8) (ha : a.length = 32) (hb : b.length = 32) (cs : Array Value) (w : World) (g : Nat) (t : TypeId) (hg : w.heap[g]? = some (.cells (updc home a b cs) t (0, 0))) : w.rangeAt g 33 (Lib.byteCells b) := fun i u hu => by
  have hi : i < b.length := by have := (List.getElem?_eq_some_iff.1 hu).1; rwa [Lib.byteCells_length] at this
  rw [cell_of_row _ _ _ _ _ _ hg]
  unfold updc
  rw [Array.getElem?_append_left (by simp [bc_size, ha, hb]; omega), Array.getElem?_append_right (by simp [bc_size, ha])]
  rw [show 33 + i - ((#[Value.int .u32 (home : Int)] : Array Value) ++ bc a).size = i by simp [bc_size, ha]]
  simpa [bc] using hu
theorem updc_sig (home : Nat) (a b : List UInt8) (ha : a.length = 32) (hb : b.length = 32) (cs : Array Value) (hc : cs.size = 4) (w : World) (g : Nat) (t : TypeId) (hg : w.heap[g]? = some (.cells (updc home a b cs) t (0, 0))) : w.rangeAt g 65 cs.toList := fun i u hu => by
  rw [cell_of_row _ _ _ _ _ _ hg]
  unfold updc
  rw [Array.getElem?_append_right (by simp [bc_size, ha, hb])]
  rw [show 65 + i - ((#[Value.int .u32 (home : Int)] : Array Value) ++ bc a ++ bc b).size = i by simp [bc_size, ha, hb]]
  simpa using hu
theorem updc_one (home : Nat) (a b : List UInt8) (cs : Array Value) (h : cs.all (·.oneCell') = true) : (updc home a b cs).all (·.oneCell') = true := by
  unfold updc
  rw [Array.all_append, Array.all_append, Array.all_append, bc_oneCell, bc_oneCell, h]
  simp [Value.oneCell']
/-- A stop's cells. -/
def stopc (home : Nat) (a : List UInt8) (x : Int) (cs : Array Value) : Array Value := #[Value.int .u32 (home : Int)] ++ bc a ++ #[Value.int .i64 x] ++ cs
theorem stopc_size (home : Nat) (a : List UInt8) (ha : a.length = 32) (x : Int) (cs : Array Value) (hc : cs.size = 4) : (stopc home a x cs).size = 38 := by simp [stopc, bc_size, ha, hc]
theorem stopc_home (home : Nat) (a : List UInt8) (x : Int) (cs : Array Value) : (stopc home a x cs)[0]? = some (.int .u32 (home : Int)) := by simp [stopc, Array.getElem?_append]
theorem stopc_who (home : Nat) (a : List UInt8) (ha : a.length = 32) (x : Int) (cs : Array Value) : (stopc home a x cs)[33]? = some (.int .i64 x) := by
  unfold stopc
  rw [Array.getElem?_append_left (by simp [bc_size, ha]), Array.getElem?_append_right (by simp [bc_size, ha])]
  rw [show 33 - ((#[Value.int .u32 (home : Int)] : Array Value) ++ bc a).size = 0 by simp [bc_size, ha]]
  rfl
theorem stopc_key (home : Nat) (a : List UInt8) (ha : a.length = 32) (x : Int) (cs : Array Value) (w : World) (g : Nat) (t : TypeId) (hg : w.heap[g]? = some (.cells (stopc home a x cs) t (0, 0))) : w.rangeAt g 1 (Lib.byteCells a) := fun i u hu => by
  have hi : i < a.length := by have := (List.getElem?_eq_some_iff.1 hu).1; rwa [Lib.byteCells_length] at this
  rw [cell_of_row _ _ _ _ _ _ hg]
  unfold stopc
  rw [Array.getElem?_append_left (by simp [bc_size, ha]; omega), Array.getElem?_append_left (by simp [bc_size, ha]; omega), Array.getElem?_append_right (by simp)]
  rw [show 1 + i - (#[Value.int .u32 (home : Int)] : Array Value).size = i by simp]
  simpa [bc] using hu
theorem stopc_sig (home : Nat) (a : List UInt8) (ha : a.length = 32) (x : Int) (cs : Array Value) (hc : cs.size = 4) (w : World) (g : Nat) (t : TypeId) (hg : w.heap[g]? = some (.cells (stopc home a x cs) t (0, 0))) : w.rangeAt g 34 cs.toList := fun i u hu => by
  rw [cell_of_row _ _ _ _ _ _ hg]
  unfold stopc
  rw [Array.getElem?_append_right (by simp [bc_size, ha])]
  rw [show 34 + i - ((#[Value.int .u32 (home : Int)] : Array Value) ++ bc a ++ #[Value.int .i64 x]).size = i by simp [bc_size, ha]]
  simpa using hu
theorem stopc_one (home : Nat) (a : List UInt8) (x : Int) (cs : Array Value) (h : cs.all (·.oneCell') = true) : (stopc home a x cs).all (·.oneCell') = true := by
  unfold stopc
  rw [Array.all_append, Array.all_append, Array.all_append, bc_oneCell, h]
  simp [Value.oneCell']
/-- A part of a row stored over another one. -/
theorem wpList_store_part {P : Program} {ops : Array Oper} {rest : List Oper} {op : Oper} {a : Act} {w : World} {Q : Exit → Act → World → Prop} (hgd : op.guard = none) (ty : TypeId) (x y : Operand) (ho : op.op = .store ty x y)
    (g o : Nat) (p m s D : Array Value) (t : TypeId) (hx : a.eval x = .pointer (some ⟨g, o, none⟩)) (hy : a.eval y = .agg D) (hp : p.size = o) (hm : m.size = D.size) (hg : w.heap[g]? = some (.cells (p ++ m ++ s) t (0, 0)))
    (hi : (P.info? ty).map (·.size) = some D.size) (h1 : D.all (·.oneCell') = true)
    (h : ∀ w', w'.heap[g]? = some (.cells (p ++ D ++ s) t (0, 0)) → (∀ k, k ≠ g → w'.heap[k]? = w.heap[k]?) → w'.heap.size = w.heap.size → (∀ B, B ≤ g → Below B w w') → wpList P ops Q rest (a.put op.dst undef) w') :
    wpList P ops Q (op :: rest) a w := by
  have hle : o + D.size ≤ (p ++ m ++ s).size := by simp only [Array.size_append]; omega
  have th : w.there g o D.size := by
    intro j hj
    refine ⟨?_, frozen_of_row _ _ _ _ _ hg⟩
    rw [cell_of_row _ _ _ _ _ _ hg]
    have : o + j < (p ++ m ++ s).size := by omega
    rw [Array.getElem?_eq_getElem this]; rfl
  refine wpList_store_mid hgd ty x y ho g o D hx hy th hi h1 ?_
  obtain ⟨r1, r2, r3, r4⟩ := setCells_heap g t D.toList o (p ++ m ++ s) w hg (by simpa using hle)
  refine h _ ?_ r2 r3 r4
  rw [r1]
  congr 2
  apply Array.ext'
  have e1 : (p ++ m ++ s).toList.take o = p.toList := by
    rw [Array.toList_append, Array.toList_append, List.append_assoc, List.take_left' (by simpa using hp)]
  have e2 : (p ++ m ++ s).toList.drop (o + D.toList.length) = s.toList := by
    rw [Array.toList_append, List.drop_left' (by simp [hp, hm])]
  rw [e1, e2]
  simp
theorem set_head (x y : Value) (A : Array Value) : (#[x] ++ A).setIfInBounds 0 y = #[y] ++ A := by
  apply Array.ext'
  simp
theorem set_at (p : Array Value) (x y : Value) (A : Array Value) (o : Nat) (h : p.size = o) : (p ++ #[x] ++ A).setIfInBounds o y = p ++ #[y] ++ A := by
  subst h
  apply Array.ext'
  simp
theorem updc_set (home h2 : Nat) (a b : List UInt8) (cs : Array Value) : (updc home a b cs).setIfInBounds 0 (.int .u32 (h2 : Int)) = updc h2 a b cs := by
  unfold updc
  rw [Array.append_assoc, Array.append_assoc, set_head, Array.append_assoc, Array.append_assoc]
theorem stopc_set (home h2 : Nat) (a : List UInt8) (x : Int) (cs : Array Value) : (stopc home a x cs).setIfInBounds 0 (.int .u32 (h2 : Int)) = stopc h2 a x cs := by
  unfold stopc
  rw [Array.append_assoc, Array.append_assoc, set_head, Array.append_assoc, Array.append_assoc]
theorem stopc_set_who (home : Nat) (a : List UInt8) (ha : a.length = 32) (x y : Int) (cs : Array Value) : (stopc home a x cs).setIfInBounds 33 (.int .i64 y) = stopc home a y cs := by
  unfold stopc
  exact set_at _ _ _ _ _ (by simp [bc_size, ha])
theorem upd_info (C : Array Value) (h : C.size = 69) : (Tryd.prog.info? 45).map (·.size) = some C.size := by rw [h]; kernel_rfl
end Go.Proofs.YtdkaphebdkdfhaaDoor

namespace Go.Proofs.YtdkaphebdkdfhaaDoor
open Go Go.RowKit
set_option linter.unusedSimpArgs false
set_option linter.unusedVariables false

theorem rsgc_info (seed : List UInt8) (h : seed.length = 32) (n : Int) (v : Value) : (Tryd.prog.info? 33).map (·.size) = some (sgc seed n v).size := by rw [sgc_size seed h]; kernel_rfl
theorem sgc_set33 (seed : List UInt8) (h : seed.length = 32) (n : Int) (v v' : Value) : (sgc seed n v).setIfInBounds 33 v' = sgc seed n v' := by
  obtain ⟨a0, a1, a2, a3, a4, a5, a6, a7, a8, a9, a10, a11, a12, a13, a14, a15, a16, a17, a18, a19, a20, a21, a22, a23, a24, a25, a26, a27, a28, a29, a30, a31, rfl⟩ := list32 seed h
  rfl
/-- What the keys of a signer note. -/
def WAll (seed : List UInt8) (n : Nat) (J : List (List UInt8)) : Prop := ∀ j, j < n → WNoted seed j 64 J ∧ wIn (pubs seed j 64) ∈ J
theorem WNoted.mono {seed : List UInt8} {x n : Nat} {I J : List (List UInt8)} (h : WNoted seed x n I) (hs : ∀ s ∈ I, s ∈ J) : WNoted seed x n J := fun j hj => ⟨hs _ (h j hj).1, hs _ (h j hj).2⟩
set_option maxHeartbeats 4000000 in
set_option maxRecDepth 100000 in
theorem rnew6Q_calls (seed : List UInt8) (h : seed.length = 32) (L : Nat) (S : Nat → Prop) (I : List (List UInt8)) (hI : I.length ≤ 100000) (w : World) (hL : RLogAt w L S I) :
    Calls Tryd.prog 8 #[.pointer (some ⟨L, 0, none⟩), .agg (bc seed)] w fun e w' => ∃ p c S' I', e = .returned (.agg (sgc seed 0 (.slice p 16 c))) ∧ DL w' p (pLeaves seed) ∧ RLogAt w' L S' I' ∧ RBut S w w' ∧ (∀ k, S' k → S k ∨ w.heap.size ≤ k) ∧ Out p S' ∧ (∀ s ∈ I, s ∈ I') ∧ WAll seed 16 I' ∧ I'.length ≤ I.length + 2064 := by
  have A3 := hide (al3 w (.cells (bc seed) 23) (.cells sg0 33) (.cells sg0 33))
  have b3 := bel3 w (.cells (bc seed) 23) (.cells sg0 33) (.cells sg0 33)
  have sX : (((w.alloc (.cells (bc seed) 23)).alloc (.cells sg0 33)).alloc (.cells sg0 33)).heap.size = w.heap.size + 1 + 1 + 1 := by simp
  have his := digInfo seed h
  have hso := bc_oneCell seed
  have CW := hide fun (k : Nat) (hk : k < 16) S I hI W hL => rwordQ_calls seed h ((k : Nat) : Int) k (by omega) L S I hI W hL
  have e0 : (#[] : Array Value) ++ bc (List.replicate 32 0) ++ #[Value.int .i64 0, .slice none 0 0] = sg0 := by unfold sg0 sgc; simp
  have e1 : (#[] : Array Value) ++ bc seed ++ #[Value.int .i64 0, .slice none 0 0] = sgc seed 0 (.slice none 0 0) := by unfold sgc; simp
  have hms : (bc (List.replicate 32 (0 : UInt8))).size = (bc seed).size := by rw [bc_size, bc_size, h]; rfl
  have HOLD := hide hL.old
  have HII := hide hI
  have Hs := hide h
  have LX := hide (hL.below b3)
  have hw0 : Hid (∀ j, (pWord seed j).length = 32) := hide (pWord_length seed)
  have hwv : Hid (∀ J : List (List UInt8), ∀ k, WAll seed k J → ∀ J', (∀ s ∈ J, s ∈ J') → WNoted seed k 64 J' → wIn (pubs seed k 64) ∈ J' → WAll seed (k + 1) J') := hide fun J k h1 J' h2 h3 h4 j hj => by
    by_cases e : j = k
    · rw [e]; exact ⟨h3, h4⟩
    · exact ⟨(h1 j (by omega)).1.mono h2, h2 _ (h1 j (by omega)).2⟩
  have hpl : Hid (pLeaves seed = (List.range 16).map (pWord seed)) := hide rfl
  clear hL hI
  go_enter Tryd.func8, Tryd.ntmps8
  go_upto_region 2 with fail
  change Code.wp _ _ _ _ (((w.alloc (.cells (bc seed) 23)).alloc (.cells sg0 33)).alloc (.cells sg0 33))
  obtain ⟨X, hX⟩ : ∃ X, ((w.alloc (.cells (bc seed) 23)).alloc (.cells sg0 33)).alloc (.cells sg0 33) = X := ⟨_, rfl⟩
  rw [hX] at A3 b3 sX LX
  rw [hX]
  obtain ⟨N, hN⟩ : ∃ N, w.heap.size = N := ⟨_, rfl⟩
  have HN := hide hN
  have Qs := hide (unhide A3).1
  have Qz := hide (unhide A3).2.1
  have Qt := hide (unhide A3).2.2
  have hb3 := hide b3
  rw [hN] at Qs Qz Qt sX HOLD
  simp only [hN]
  have SX := hide sX
  clear hX A3 b3 sX hN
  go_wp2_with (first
    | (refine wpList_load_row rfl 23 (.tmp 3) rfl N rfl 23 _ (0, 0) _ (unhide Qs) Tryd.underlying23 rfl his ?_)
    | (refine wpList_store_part rfl 23 (.tmp 8) (.tmp 7) rfl (N + 1 + 1) 0 #[] (bc (List.replicate 32 0)) #[.int .i64 0, .slice none 0 0] (bc seed) 33 rfl rfl rfl hms (by rw [e0]; exact unhide Qt) his hso ?_; intro w1 t1 o1 s1 b1; rw [e1] at t1; have QT := hide t1; have QS1 := hide ((o1 N (by omega)).trans (unhide Qs)); have QZ := hide ((o1 (N + 1) (by omega)).trans (unhide Qz)); have HO1 := hide o1; have HS1 := hide s1; have HB1 := hide (b1 (N + 1 + 1) (Nat.le_refl _)); clear t1 o1 s1 b1))
  clear e0 e1 hms
  have L1 := hide ((unhide LX).kept (w' := w1) (fun k hk => unhide HO1 k (fun e => by have := unhide HOLD _ hk; omega)) (by rw [unhide HS1]; exact Nat.le_refl _))
  have R1 : Hid (RBut S w w1) := hide ((RBut.of_below (unhide hb3)).then_below (unhide HB1) (by rw [unhide HN]; omega))
  go_loopw [6] (fun i wr => ∃ (k : Nat) (v : Value) (S' : Nat → Prop) (I' : List (List UInt8)), k ≤ 16 ∧ i = .int .i64 (k : Int) ∧ Hid (wr.heap[N]? = some (.cells (bc seed) 23 (0, 0))) ∧ Hid (wr.heap[N + 1]? = some (.cells sg0 33 (0, 0))) ∧ Hid (wr.heap[N + 1 + 1]? = some (.cells (sgc seed 0 v) 33 (0, 0))) ∧ Hid (wr.ownsRow (N + 1 + 1 + 1) 23 32 v k (Lib.byteCells ((List.range k).flatMap (pWord seed)))) ∧ Hid (RLogAt wr L S' I') ∧ Hid (RBut S w wr) ∧ Hid (∀ k, S' k → S k ∨ N + 1 + 1 + 1 ≤ k) ∧ Hid (∀ k, v.ownBlock = some k → ¬ S' k) ∧ Hid (∀ s ∈ I, s ∈ I') ∧ Hid (WAll seed k I') ∧ Hid (I'.length ≤ I.length + 129 * k)) (fun i _ => 16 - (intOf i).toNat)
  case atStart => exact ⟨0, .slice none 0 0, S, I, by omega, rfl, QS1, QZ, QT, hide (World.ownsRow_nil _ _ _ _), L1, R1, hide fun k h => .inl h, hide fun k h => by simp [Value.ownBlock] at h, hide fun s h => h, hide fun j h => by omega, hide (by omega)⟩
  case round =>
    obtain ⟨k, v, S1, I1, hk, rfl, qS, qZ, qT, hO, hL1, hB1, hM1, hw1, hI1, hI2, hI3⟩ := hrel
    clear hb3 QT QS1 QZ HO1 HS1 HB1 L1 R1 Qs Qz Qt LX
    have zr : N + 1 + 1 < wr.heap.size := (Array.getElem?_eq_some_iff.1 (unhide qT)).1
    have HZr := hide zr
    have NS : Hid (∀ j, N ≤ j → j < N + 1 + 1 + 1 → ¬ S1 j) := hide fun j h1 h2 h => (unhide hM1 j h).elim (fun h => by have := unhide HOLD _ h; omega) (fun h => by omega)
    by_cases hlt : k < 16
    · have hd : decide ((k : Int) < 16) = true := by simp; omega
      have Hk := hide hlt
      have cw := hide fun W hL => unhide CW k hlt S1 I1 (by have := unhide hI3; have := unhide HII; omega) W hL
      have hfs := hide (flat_snocD (pWord seed) k)
      have hFl := unhide hw0 k
      have hs0 : Hid ((bc (pWord seed k)).size = 32) := hide (by rw [bc_size]; exact hFl)
      have hoF := bc_oneCell (pWord seed k)
      have hwv' := hide (unhide hwv I1 k (unhide hI2))
      generalize pWord seed k = FK at *
      have ct := (cell_of_row _ _ _ _ _ _ (unhide qT)).trans (sgc_leaves seed (unhide Hs) 0 v)
      clear hlt zr hFl
      go_wp2_with fail
      obtain ⟨SS, hSS⟩ : ∃ SS : World → Prop, SS = fun W => W.heap[N]? = some (.cells (bc seed) 23 (0, 0)) := ⟨_, rfl⟩
      have HSS : Hid (∀ W : World, SS W ↔ (W.heap[N]? = some (.cells (bc seed) 23 (0, 0)))) := hide fun W => by rw [hSS]
      clear hSS
      have r0 : Hid (∀ W, SS W → W.heap[N]? = some (.cells (bc seed) 23 (0, 0))) := hide fun W h => (unhide HSS W).1 h
      have hS0 : SS ({ wr with drawn := wr.drawn + 1 } : World) := (unhide HSS _).2 (unhide qS)
      have Sd0 : Below wr.heap.size wr ({ wr with drawn := wr.drawn + 1 } : World) := ⟨rfl, rfl, rfl, Nat.le_refl _, fun _ _ => rfl⟩
      have Sdz : ({ wr with drawn := wr.drawn + 1 } : World).heap = wr.heap := rfl
      refine wp_region_held (S := SS) mixed ?_
      obtain ⟨d0, hd0⟩ : ∃ d, { wr with drawn := wr.drawn + 1 } = d := ⟨_, rfl⟩
      rw [hd0] at Sd0 hS0 Sdz
      rw [hd0]
      have qSd := hide ((Below.at Sd0 (by have := unhide HZr; omega) (unhide qS)))
      have qZd := hide ((Below.at Sd0 (by have := unhide HZr; omega) (unhide qZ)))
      have qTd := hide ((Below.at Sd0 (by have := unhide HZr; omega) (unhide qT)))
      have od := hide (owns_at (unhide hO) (fun k e => Sd0.block k ((unhide hO).lt k e).2))
      have Ld := hide ((unhide hL1).below Sd0)
      have Rd := hide ((unhide hB1).then_below Sd0 (unhide hB1).size)
      have zd : Hid (N + 1 + 1 < d0.heap.size) := hide (Nat.lt_of_lt_of_le (unhide HZr) Sd0.size)
      have hvs : Hid (∀ k, v.ownBlock = some k → ¬ S1 k ∧ k < d0.heap.size ∧ N + 1 + 1 + 1 ≤ k) := hide fun k e => ⟨unhide hw1 k e, ((unhide od).lt k e).2, ((unhide od).lt k e).1⟩
      clear hd0 ct Sd0 Sdz
      refine wpAnyH_take (i := 0) (v := .pointer (some ⟨N + 1 + 1, 33, none⟩)) rfl (by kernel_rfl) (by kernel_rfl) (by kernel_rfl) (fun _ _ _ h => h) (.inl ⟨by kernel_rfl, fun W _ => by go_simp⟩) hS0 ?_
      refine wpAnyH_take (i := 2) rfl (by kernel_rfl) (by kernel_rfl) (by kernel_rfl) (fun _ _ _ h => h) (.inl ⟨rfl, fun _ _ => rfl⟩) hS0 ?_
      refine wpAnyH_take (i := 3) rfl (by kernel_rfl) (by kernel_rfl) (by kernel_rfl) (fun _ _ _ h => h) (yields_row (by kernel_rfl) 23 (.tmp 3) rfl N (by kernel_rfl) 23 _ (0, 0) _ (unhide r0) Tryd.underlying23 rfl his) hS0 ?_
      refine wpAnyH_take (i := 4) (v := .int .i64 (k : Int)) rfl (by kernel_rfl) (by kernel_rfl) (by kernel_rfl) (fun _ _ _ h => h) (.inl ⟨by kernel_rfl, fun W _ => by go_simp⟩) hS0 ?_
      have Hs0 := hide hS0
      clear hS0
      refine wpAnyH_two 1 5 _ _ (by kernel_rfl) rfl rfl ?_ ?_
      · have ct := (cell_of_row _ _ _ _ _ _ (unhide qTd)).trans (sgc_leaves seed (unhide Hs) 0 v)
        go_wp2
        refine ⟨unhide Hs0, ?_⟩
        refine wpAnyH_one 5 _ (by kernel_rfl) rfl ?_
        clear ct
        go_wp2_with fail
        refine (unhide cw _ (unhide Ld)).mono ?_
        rintro e w4 ⟨rfl, S4, I4, L4, B4, M4, mo4, nt4, le4⟩
        have qS4 := hide ((B4.block N (by have := unhide zd; omega) (unhide NS N (by omega) (by omega))).trans (unhide qSd))
        have qZ4 := hide ((B4.block (N + 1) (by have := unhide zd; omega) (unhide NS (N + 1) (by omega) (by omega))).trans (unhide qZd))
        have qT4 := hide ((B4.block (N + 1 + 1) (by have := unhide zd; omega) (unhide NS (N + 1 + 1) (by omega) (by omega))).trans (unhide qTd))
        have o4 := hide (owns_at (unhide od) (fun k e => B4.block k (unhide hvs k e).2.1 (unhide hvs k e).1))
        have hv4 : Hid (∀ k, v.ownBlock = some k → ¬ S4 k) := hide fun k e h => (M4 k h).elim (unhide hvs k e).1 (fun h2 => by have := (unhide hvs k e).2.1; omega)
        have R4 := hide ((unhide Rd).trans B4 (fun k h => (unhide hM1 k h).imp_right (fun h2 => by rw [unhide HN]; omega)))
        have M5 : Hid (∀ k, S4 k → S k ∨ N + 1 + 1 + 1 ≤ k) := hide fun k h => (M4 k h).elim (unhide hM1 k) (fun h2 => .inr (by have := unhide zd; omega))
        have z4 : Hid (N + 1 + 1 < w4.heap.size) := hide (Nat.lt_of_lt_of_le (unhide zd) B4.size)
        have HL4 := hide L4
        have Hmo4 := hide mo4
        have Hnt4 := hide nt4
        have Hle4 := hide le4
        have Hs4 := hide ((unhide HSS w4).2 (unhide qS4))
        clear L4 B4 M4 mo4 nt4 le4
        go_wp2
        refine ⟨unhide Hs4, ?_⟩
        refine wpAnyH_one 6 _ (by kernel_rfl) rfl ?_
        go_wp2_with (refine wpList_build_one rfl 24 23 (.tmp 18) rfl 32 32 (by decide) (by decide) (bc FK) rfl (unhide hs0) Tryd.underlying24 digRowInfoD ?_)
        have hSA : SS (w4.alloc (.cells (bc FK) 23)) := (unhide HSS _).2 ((Below.heap_alloc w4 (.cells (bc FK) 23) _ (by have := unhide z4; omega)).trans (unhide qS4))
        refine ⟨hSA, ?_⟩
        refine wpAnyH_one 7 _ (by kernel_rfl) rfl ?_
        refine wpList_append_rowD rfl 24 23 (.tmp 14) (.tmp 19) rfl 32 32 (by decide) (by decide) Tryd.underlying24 digRowInfoD (N + 1 + 1 + 1) v k _ rfl w4 (unhide o4) (by have := unhide z4; omega) (bc FK) (unhide hs0) hoF rfl (by have := unhide Hk; omega) ?_
        intro v' w5 o5 b5 k5 a5
        obtain ⟨g5, c5, hv5⟩ := slice_of o5
        have z5 : N + 1 + 1 < w5.heap.size := Nat.lt_of_lt_of_le (unhide z4) b5.size
        have nv : ∀ j, j < N + 1 + 1 + 1 → some j ≠ v.ownBlock := fun j hj e => by have := (unhide hvs j e.symm).2.2; omega
        have qS5 := (k5 N (by have := unhide z4; omega) (nv N (by omega))).trans (unhide qS4)
        have qZ5 := (k5 (N + 1) (by have := unhide z4; omega) (nv (N + 1) (by omega))).trans (unhide qZ4)
        have qT5 := (k5 (N + 1 + 1) (by have := unhide z4; omega) (nv (N + 1 + 1) (by omega))).trans (unhide qT4)
        have hS5 : SS w5 := (unhide HSS _).2 qS5
        have L5 : RLogAt w5 L S4 I4 := (unhide HL4).kept (fun j hj => k5 j ((unhide HL4).old j hj) (fun e => unhide hv4 j e.symm hj)) b5.size
        have R5 := hide ((unhide R4).then_below b5 (by rw [unhide HN]; omega))
        have n5 : ∀ j, v'.ownBlock = some j → ¬ S4 j ∧ N + 1 + 1 + 1 ≤ j := fun j e => ⟨fun h => by
          rcases a5 with h2 | ⟨g, h2, h3⟩
          · exact unhide hv4 j (h2.symm.trans e) h
          · rw [h2] at e
            have := Option.some.inj e
            have := (unhide HL4).old j h
            omega, (o5.lt j e).1⟩
        go_wp2
        refine ⟨hS5, ?_⟩
        refine wpAnyH_take (i := 8) (v := .pointer (some ⟨N + 1 + 1, 33, none⟩)) rfl (by kernel_rfl) (by kernel_rfl) (by kernel_rfl) (fun _ _ _ h => h) (.inl ⟨by kernel_rfl, fun W _ => by go_simp⟩) hS5 ?_
        refine wpAnyH_one 9 _ (by kernel_rfl) rfl ?_
        have N5 := hide n5
        have O5 := hide o5
        have Q5S := hide qS5
        have Q5Z := hide qZ5
        have Q5T := hide qT5
        have HL5 := hide L5
        have f5 := frozen_of_row w5 (N + 1 + 1) 33 _ _ qT5
        have ct5 : w5.cell? ⟨N + 1 + 1, 33, none⟩ = some v := by rw [cell_of_row _ _ _ _ _ _ qT5]; exact sgc_leaves seed (unhide Hs) 0 v
        subst hv5
        clear qS5 qZ5 qT5 L5 n5 o5 b5 k5 a5 nv hS5
        go_wp2
        have e6 := heap_setCell_same _ _ 33 _ _ (.slice (some ⟨g5, 0, none⟩) (k + 1) c5) (unhide Q5T)
        rw [sgc_set33 seed (unhide Hs)] at e6
        have oth : ∀ j, j ≠ N + 1 + 1 → (w5.setCell ⟨N + 1 + 1, 33, none⟩ (.slice (some ⟨g5, 0, none⟩) (k + 1) c5)).heap[j]? = w5.heap[j]? := fun j hj => heap_setCell_other _ _ _ _ (by show j ≠ N + 1 + 1; exact hj)
        have z6 : (w5.setCell ⟨N + 1 + 1, 33, none⟩ (.slice (some ⟨g5, 0, none⟩) (k + 1) c5)).heap.size = w5.heap.size := by simp
        have R6 := hide ((unhide R5).then_below (Below.setCell (p := ⟨N + 1 + 1, 33, none⟩) (Below.refl (N + 1 + 1) w5) (Nat.le_refl _) (.slice (some ⟨g5, 0, none⟩) (k + 1) c5)) (by rw [unhide HN]; omega))
        have E6 := hide e6
        have OTH := hide oth
        have Z6 := hide z6
        clear e6 oth z6 f5 ct5
        refine ⟨(unhide HSS _).2 ((unhide OTH N (by omega)).trans (unhide Q5S)), wpAnyH_done (by kernel_rfl) ?_ _⟩
        generalize w5.setCell ⟨N + 1 + 1, 33, none⟩ (.slice (some ⟨g5, 0, none⟩) (k + 1) c5) = W6 at *
        go_wp2
        go_roundw
        case rel =>
          refine ⟨k + 1, _, S4, I4, by have := unhide Hk; omega, by go_num, hide ((unhide OTH N (by omega)).trans (unhide Q5S)), hide ((unhide OTH (N + 1) (by omega)).trans (unhide Q5Z)), E6, hide ?_, hide ((unhide HL5).kept (fun j hj => unhide OTH j (fun e => by have := unhide M5 j hj; rw [e] at this; exact this.elim (fun h => by have := unhide HOLD _ h; omega) (fun h => by omega))) (by rw [unhide Z6]; exact Nat.le_refl _)), R6, M5, hide fun j e => (unhide N5 j e).1, hide fun s h => unhide Hmo4 s (unhide hI1 s h), hide (unhide hwv' I4 (unhide Hmo4) (unhide Hnt4).1 (unhide Hnt4).2), hide (by have := unhide Hle4; have := unhide hI3; omega)⟩
          rw [unhide hfs]
          exact owns_at (unhide O5) (fun j e => unhide OTH j (by have := (unhide N5 j e).2; omega))
        case measure => have := unhide Hk; simp [intOf]; omega
      · go_wp2_with fail
        refine (unhide cw _ (unhide Ld)).mono ?_
        rintro e w4 ⟨rfl, S4, I4, L4, B4, M4, mo4, nt4, le4⟩
        have qS4 := hide ((B4.block N (by have := unhide zd; omega) (unhide NS N (by omega) (by omega))).trans (unhide qSd))
        have qZ4 := hide ((B4.block (N + 1) (by have := unhide zd; omega) (unhide NS (N + 1) (by omega) (by omega))).trans (unhide qZd))
        have qT4 := hide ((B4.block (N + 1 + 1) (by have := unhide zd; omega) (unhide NS (N + 1 + 1) (by omega) (by omega))).trans (unhide qTd))
        have o4 := hide (owns_at (unhide od) (fun k e => B4.block k (unhide hvs k e).2.1 (unhide hvs k e).1))
        have hv4 : Hid (∀ k, v.ownBlock = some k → ¬ S4 k) := hide fun k e h => (M4 k h).elim (unhide hvs k e).1 (fun h2 => by have := (unhide hvs k e).2.1; omega)
        have R4 := hide ((unhide Rd).trans B4 (fun k h => (unhide hM1 k h).imp_right (fun h2 => by rw [unhide HN]; omega)))
        have M5 : Hid (∀ k, S4 k → S k ∨ N + 1 + 1 + 1 ≤ k) := hide fun k h => (M4 k h).elim (unhide hM1 k) (fun h2 => .inr (by have := unhide zd; omega))
        have z4 : Hid (N + 1 + 1 < w4.heap.size) := hide (Nat.lt_of_lt_of_le (unhide zd) B4.size)
        have HL4 := hide L4
        have Hmo4 := hide mo4
        have Hnt4 := hide nt4
        have Hle4 := hide le4
        have Hs4 := hide ((unhide HSS w4).2 (unhide qS4))
        clear L4 B4 M4 mo4 nt4 le4
        go_wp2
        refine ⟨unhide Hs4, ?_⟩
        refine wpAnyH_two 1 6 _ _ (by kernel_rfl) rfl rfl ?_ ?_
        · have ct := (cell_of_row _ _ _ _ _ _ (unhide qT4)).trans (sgc_leaves seed (unhide Hs) 0 v)
          go_wp2
          refine ⟨unhide Hs4, ?_⟩
          clear ct
          refine wpAnyH_one 6 _ (by kernel_rfl) rfl ?_
          go_wp2_with (refine wpList_build_one rfl 24 23 (.tmp 18) rfl 32 32 (by decide) (by decide) (bc FK) rfl (unhide hs0) Tryd.underlying24 digRowInfoD ?_)
          have hSA : SS (w4.alloc (.cells (bc FK) 23)) := (unhide HSS _).2 ((Below.heap_alloc w4 (.cells (bc FK) 23) _ (by have := unhide z4; omega)).trans (unhide qS4))
          refine ⟨hSA, ?_⟩
          refine wpAnyH_one 7 _ (by kernel_rfl) rfl ?_
          refine wpList_append_rowD rfl 24 23 (.tmp 14) (.tmp 19) rfl 32 32 (by decide) (by decide) Tryd.underlying24 digRowInfoD (N + 1 + 1 + 1) v k _ rfl w4 (unhide o4) (by have := unhide z4; omega) (bc FK) (unhide hs0) hoF rfl (by have := unhide Hk; omega) ?_
          intro v' w5 o5 b5 k5 a5
          obtain ⟨g5, c5, hv5⟩ := slice_of o5
          have z5 : N + 1 + 1 < w5.heap.size := Nat.lt_of_lt_of_le (unhide z4) b5.size
          have nv : ∀ j, j < N + 1 + 1 + 1 → some j ≠ v.ownBlock := fun j hj e => by have := (unhide hvs j e.symm).2.2; omega
          have qS5 := (k5 N (by have := unhide z4; omega) (nv N (by omega))).trans (unhide qS4)
          have qZ5 := (k5 (N + 1) (by have := unhide z4; omega) (nv (N + 1) (by omega))).trans (unhide qZ4)
          have qT5 := (k5 (N + 1 + 1) (by have := unhide z4; omega) (nv (N + 1 + 1) (by omega))).trans (unhide qT4)
          have hS5 : SS w5 := (unhide HSS _).2 qS5
          have L5 : RLogAt w5 L S4 I4 := (unhide HL4).kept (fun j hj => k5 j ((unhide HL4).old j hj) (fun e => unhide hv4 j e.symm hj)) b5.size
          have R5 := hide ((unhide R4).then_below b5 (by rw [unhide HN]; omega))
          have n5 : ∀ j, v'.ownBlock = some j → ¬ S4 j ∧ N + 1 + 1 + 1 ≤ j := fun j e => ⟨fun h => by
            rcases a5 with h2 | ⟨g, h2, h3⟩
            · exact unhide hv4 j (h2.symm.trans e) h
            · rw [h2] at e
              have := Option.some.inj e
              have := (unhide HL4).old j h
              omega, (o5.lt j e).1⟩
          go_wp2
          refine ⟨hS5, ?_⟩
          refine wpAnyH_take (i := 8) (v := .pointer (some ⟨N + 1 + 1, 33, none⟩)) rfl (by kernel_rfl) (by kernel_rfl) (by kernel_rfl) (fun _ _ _ h => h) (.inl ⟨by kernel_rfl, fun W _ => by go_simp⟩) hS5 ?_
          refine wpAnyH_one 9 _ (by kernel_rfl) rfl ?_
          have N5 := hide n5
          have O5 := hide o5
          have Q5S := hide qS5
          have Q5Z := hide qZ5
          have Q5T := hide qT5
          have HL5 := hide L5
          have f5 := frozen_of_row w5 (N + 1 + 1) 33 _ _ qT5
          have ct5 : w5.cell? ⟨N + 1 + 1, 33, none⟩ = some v := by rw [cell_of_row _ _ _ _ _ _ qT5]; exact sgc_leaves seed (unhide Hs) 0 v
          subst hv5
          clear qS5 qZ5 qT5 L5 n5 o5 b5 k5 a5 nv hS5
          go_wp2
          have e6 := heap_setCell_same _ _ 33 _ _ (.slice (some ⟨g5, 0, none⟩) (k + 1) c5) (unhide Q5T)
          rw [sgc_set33 seed (unhide Hs)] at e6
          have oth : ∀ j, j ≠ N + 1 + 1 → (w5.setCell ⟨N + 1 + 1, 33, none⟩ (.slice (some ⟨g5, 0, none⟩) (k + 1) c5)).heap[j]? = w5.heap[j]? := fun j hj => heap_setCell_other _ _ _ _ (by show j ≠ N + 1 + 1; exact hj)
          have z6 : (w5.setCell ⟨N + 1 + 1, 33, none⟩ (.slice (some ⟨g5, 0, none⟩) (k + 1) c5)).heap.size = w5.heap.size := by simp
          have R6 := hide ((unhide R5).then_below (Below.setCell (p := ⟨N + 1 + 1, 33, none⟩) (Below.refl (N + 1 + 1) w5) (Nat.le_refl _) (.slice (some ⟨g5, 0, none⟩) (k + 1) c5)) (by rw [unhide HN]; omega))
          have E6 := hide e6
          have OTH := hide oth
          have Z6 := hide z6
          clear e6 oth z6 f5 ct5
          refine ⟨(unhide HSS _).2 ((unhide OTH N (by omega)).trans (unhide Q5S)), wpAnyH_done (by kernel_rfl) ?_ _⟩
          generalize w5.setCell ⟨N + 1 + 1, 33, none⟩ (.slice (some ⟨g5, 0, none⟩) (k + 1) c5) = W6 at *
          go_wp2
          go_roundw
          case rel =>
            refine ⟨k + 1, _, S4, I4, by have := unhide Hk; omega, by go_num, hide ((unhide OTH N (by omega)).trans (unhide Q5S)), hide ((unhide OTH (N + 1) (by omega)).trans (unhide Q5Z)), E6, hide ?_, hide ((unhide HL5).kept (fun j hj => unhide OTH j (fun e => by have := unhide M5 j hj; rw [e] at this; exact this.elim (fun h => by have := unhide HOLD _ h; omega) (fun h => by omega))) (by rw [unhide Z6]; exact Nat.le_refl _)), R6, M5, hide fun j e => (unhide N5 j e).1, hide fun s h => unhide Hmo4 s (unhide hI1 s h), hide (unhide hwv' I4 (unhide Hmo4) (unhide Hnt4).1 (unhide Hnt4).2), hide (by have := unhide Hle4; have := unhide hI3; omega)⟩
            rw [unhide hfs]
            exact owns_at (unhide O5) (fun j e => unhide OTH j (by have := (unhide N5 j e).2; omega))
          case measure => have := unhide Hk; simp [intOf]; omega
        · go_wp2_with (refine wpList_build_one rfl 24 23 (.tmp 18) rfl 32 32 (by decide) (by decide) (bc FK) rfl (unhide hs0) Tryd.underlying24 digRowInfoD ?_)
          have hSA : SS (w4.alloc (.cells (bc FK) 23)) := (unhide HSS _).2 ((Below.heap_alloc w4 (.cells (bc FK) 23) _ (by have := unhide z4; omega)).trans (unhide qS4))
          refine ⟨hSA, ?_⟩
          refine wpAnyH_one 1 _ (by kernel_rfl) rfl ?_
          have ctA := (cell_of_row _ _ _ _ _ _ ((Below.heap_alloc w4 (.cells (bc FK) 23) _ (by have := unhide z4; omega)).trans (unhide qT4))).trans (sgc_leaves seed (unhide Hs) 0 v)
          change wpList _ _ _ _ _ (w4.alloc (.cells (bc FK) 23))
          obtain ⟨WA, hWA⟩ : ∃ W, w4.alloc (.cells (bc FK) 23) = W := ⟨_, rfl⟩
          have HWA := hide hWA
          rw [hWA] at ctA hSA
          rw [hWA]
          clear hWA
          go_wp2
          refine ⟨hSA, ?_⟩
          rw [← unhide HWA] at hSA ⊢
          clear ctA HWA
          refine wpAnyH_one 7 _ (by kernel_rfl) rfl ?_
          refine wpList_append_rowD rfl 24 23 (.tmp 14) (.tmp 19) rfl 32 32 (by decide) (by decide) Tryd.underlying24 digRowInfoD (N + 1 + 1 + 1) v k _ rfl w4 (unhide o4) (by have := unhide z4; omega) (bc FK) (unhide hs0) hoF rfl (by have := unhide Hk; omega) ?_
          intro v' w5 o5 b5 k5 a5
          obtain ⟨g5, c5, hv5⟩ := slice_of o5
          have z5 : N + 1 + 1 < w5.heap.size := Nat.lt_of_lt_of_le (unhide z4) b5.size
          have nv : ∀ j, j < N + 1 + 1 + 1 → some j ≠ v.ownBlock := fun j hj e => by have := (unhide hvs j e.symm).2.2; omega
          have qS5 := (k5 N (by have := unhide z4; omega) (nv N (by omega))).trans (unhide qS4)
          have qZ5 := (k5 (N + 1) (by have := unhide z4; omega) (nv (N + 1) (by omega))).trans (unhide qZ4)
          have qT5 := (k5 (N + 1 + 1) (by have := unhide z4; omega) (nv (N + 1 + 1) (by omega))).trans (unhide qT4)
          have hS5 : SS w5 := (unhide HSS _).2 qS5
          have L5 : RLogAt w5 L S4 I4 := (unhide HL4).kept (fun j hj => k5 j ((unhide HL4).old j hj) (fun e => unhide hv4 j e.symm hj)) b5.size
          have R5 := hide ((unhide R4).then_below b5 (by rw [unhide HN]; omega))
          have n5 : ∀ j, v'.ownBlock = some j → ¬ S4 j ∧ N + 1 + 1 + 1 ≤ j := fun j e => ⟨fun h => by
            rcases a5 with h2 | ⟨g, h2, h3⟩
            · exact unhide hv4 j (h2.symm.trans e) h
            · rw [h2] at e
              have := Option.some.inj e
              have := (unhide HL4).old j h
              omega, (o5.lt j e).1⟩
          go_wp2
          refine ⟨hS5, ?_⟩
          refine wpAnyH_take (i := 8) (v := .pointer (some ⟨N + 1 + 1, 33, none⟩)) rfl (by kernel_rfl) (by kernel_rfl) (by kernel_rfl) (fun _ _ _ h => h) (.inl ⟨by kernel_rfl, fun W _ => by go_simp⟩) hS5 ?_
          refine wpAnyH_one 9 _ (by kernel_rfl) rfl ?_
          have N5 := hide n5
          have O5 := hide o5
          have Q5S := hide qS5
          have Q5Z := hide qZ5
          have Q5T := hide qT5
          have HL5 := hide L5
          have f5 := frozen_of_row w5 (N + 1 + 1) 33 _ _ qT5
          have ct5 : w5.cell? ⟨N + 1 + 1, 33, none⟩ = some v := by rw [cell_of_row _ _ _ _ _ _ qT5]; exact sgc_leaves seed (unhide Hs) 0 v
          subst hv5
          clear qS5 qZ5 qT5 L5 n5 o5 b5 k5 a5 nv hS5
          go_wp2
          have e6 := heap_setCell_same _ _ 33 _ _ (.slice (some ⟨g5, 0, none⟩) (k + 1) c5) (unhide Q5T)
          rw [sgc_set33 seed (unhide Hs)] at e6
          have oth : ∀ j, j ≠ N + 1 + 1 → (w5.setCell ⟨N + 1 + 1, 33, none⟩ (.slice (some ⟨g5, 0, none⟩) (k + 1) c5)).heap[j]? = w5.heap[j]? := fun j hj => heap_setCell_other _ _ _ _ (by show j ≠ N + 1 + 1; exact hj)
          have z6 : (w5.setCell ⟨N + 1 + 1, 33, none⟩ (.slice (some ⟨g5, 0, none⟩) (k + 1) c5)).heap.size = w5.heap.size := by simp
          have R6 := hide ((unhide R5).then_below (Below.setCell (p := ⟨N + 1 + 1, 33, none⟩) (Below.refl (N + 1 + 1) w5) (Nat.le_refl _) (.slice (some ⟨g5, 0, none⟩) (k + 1) c5)) (by rw [unhide HN]; omega))
          have E6 := hide e6
          have OTH := hide oth
          have Z6 := hide z6
          clear e6 oth z6 f5 ct5
          refine ⟨(unhide HSS _).2 ((unhide OTH N (by omega)).trans (unhide Q5S)), wpAnyH_done (by kernel_rfl) ?_ _⟩
          generalize w5.setCell ⟨N + 1 + 1, 33, none⟩ (.slice (some ⟨g5, 0, none⟩) (k + 1) c5) = W6 at *
          go_wp2
          go_roundw
          case rel =>
            refine ⟨k + 1, _, S4, I4, by have := unhide Hk; omega, by go_num, hide ((unhide OTH N (by omega)).trans (unhide Q5S)), hide ((unhide OTH (N + 1) (by omega)).trans (unhide Q5Z)), E6, hide ?_, hide ((unhide HL5).kept (fun j hj => unhide OTH j (fun e => by have := unhide M5 j hj; rw [e] at this; exact this.elim (fun h => by have := unhide HOLD _ h; omega) (fun h => by omega))) (by rw [unhide Z6]; exact Nat.le_refl _)), R6, M5, hide fun j e => (unhide N5 j e).1, hide fun s h => unhide Hmo4 s (unhide hI1 s h), hide (unhide hwv' I4 (unhide Hmo4) (unhide Hnt4).1 (unhide Hnt4).2), hide (by have := unhide Hle4; have := unhide hI3; omega)⟩
            rw [unhide hfs]
            exact owns_at (unhide O5) (fun j e => unhide OTH j (by have := (unhide N5 j e).2; omega))
          case measure => have := unhide Hk; simp [intOf]; omega
    · have hkl : k = 16 := by omega
      subst hkl
      have hd : decide (((16 : Nat) : Int) < 16) = false := by decide
      obtain ⟨p, c, rfl, hc, hD⟩ := DL_of_ownsD (pWord seed) (unhide hw0) (unhide hO)
      have HD := hide hD
      have hiC := rsgc_info seed (unhide Hs) 0 (.slice p 16 c)
      have hoC := sgc_one seed 0 p 16 c
      have hzC := sg0_size seed (unhide Hs) 0 (.slice p 16 c)
      have HP : Hid (∀ a, p = some a → N + 1 + 1 + 1 ≤ a.block) := hide fun a e => ((unhide hO).lt a.block (by rw [e]; rfl)).1
      have hw1' : Hid (Out p S1) := hide fun a e => unhide hw1 a.block (by rw [e]; rfl)
      obtain ⟨C, hC⟩ : ∃ C, sgc seed 0 (.slice p 16 c) = C := ⟨_, rfl⟩
      rw [hC] at hiC hoC hzC qT
      have HC := hide hC
      clear hlt hD zr hO hC hc
      go_wp2_with (first
        | (refine wpList_load_row rfl 33 (.tmp 5) rfl (N + 1 + 1) rfl 33 _ (0, 0) _ (unhide qT) Tryd.underlying33 rfl hiC ?_)
        | (refine wpList_store_row rfl 33 (.tmp 4) (.tmp 22) rfl (N + 1) _ rfl rfl 33 _ (unhide qZ) hiC hzC hoC ?_))
      refine bodyPost_ret (results_cell_row rfl _ _ (N + 1) _ _ _ _ rfl (setRow_heap _ _ _ _ _ _ (unhide qZ)) Tryd.underlying33 rfl hiC) rfl ⟨p, c, S1, I1, by rw [unhide HC], ?_, (unhide hL1).kept (fun k hk => setRow_other _ _ _ _ (fun e => unhide NS (N + 1) (by omega) (by omega) (by rw [← e]; exact hk))) (by rw [setRow_size]; exact Nat.le_refl _), ?_, fun k h => (unhide hM1 k h).imp_right (fun h2 => by rw [unhide HN]; omega), unhide hw1', unhide hI1, unhide hI2, by have := unhide hI3; omega⟩
      · rw [unhide hpl]; refine (unhide HD).rbut (S := fun k => k = N + 1) ⟨rfl, rfl, rfl, by rw [setRow_size]; exact Nat.le_refl _, fun k hk hn => setRow_other _ _ _ _ hn⟩ (fun _ a e hs => by have := unhide HP a e; omega)
      · have r := unhide hB1
        exact ⟨r.os, r.tape, r.output, by rw [setRow_size]; exact r.size, fun k hk hn => (setRow_other _ _ _ _ (by rw [unhide HN] at hk; omega)).trans (r.block k hk hn)⟩
end Go.Proofs.YtdkaphebdkdfhaaDoor

namespace Go.Proofs.YtdkaphebdkdfhaaDoor
open Go.RowKit
set_option linter.unusedSimpArgs false
set_option linter.unusedVariables false

theorem pBig1_inj {n m : Nat} (hn : n < 256) (hm : m < 256) (h : pBig n 1 = pBig m 1) : n = m := by
  have h0 := congrArg (fun l => l.getD 0 0) h
  simp [pBig] at h0
  have h1 := congrArg UInt8.toNat h0
  rw [UInt8.toNat_ofNat', UInt8.toNat_ofNat'] at h1
  omega
theorem pBig4_inj {n m : Nat} (hn : n < 4294967296) (hm : m < 4294967296) (h : pBig n 4 = pBig m 4) : n = m := by
  have g : ∀ i, i < 4 → n / 2 ^ (8 * (3 - i)) % 256 = m / 2 ^ (8 * (3 - i)) % 256 := fun i hi => by
    have h0 := congrArg (fun l => (l.getD i 0).toNat) h
    simp [pBig, hi] at h0
    exact h0
  have a := g 0 (by omega)
  have b := g 1 (by omega)
  have c := g 2 (by omega)
  have d := g 3 (by omega)
  simp at a b c d
  omega
theorem flatText_inj : ∀ (ps qs : List (List UInt8)), (∀ p ∈ ps, p.length < 4294967296) → (∀ q ∈ qs, q.length < 4294967296) → ps.flatMap pText4 = qs.flatMap pText4 → ps = qs
  | [], [], _, _, _ => rfl
  | [], q :: qs, _, _, h => by
    have := congrArg List.length h
    rw [List.flatMap_cons, List.length_append, pText4_length, List.flatMap_nil, List.length_nil] at this
    omega
  | p :: ps, [], _, _, h => by
    have := congrArg List.length h
    rw [List.flatMap_cons, List.length_append, pText4_length, List.flatMap_nil, List.length_nil] at this
    omega
  | p :: ps, q :: qs, hp, hq, h => by
    have e : ∀ l : List UInt8, pText4 l = pBig l.length 4 ++ l := fun _ => rfl
    rw [List.flatMap_cons, List.flatMap_cons, e, e, List.append_assoc, List.append_assoc] at h
    obtain ⟨h1, h2⟩ := List.append_inj h (by rw [pBig_length, pBig_length])
    have hl := pBig4_inj (hp p (by simp)) (hq q (by simp)) h1
    obtain ⟨h3, h4⟩ := List.append_inj h2 hl
    rw [h3, flatText_inj ps qs (fun x hx => hp x (by simp [hx])) (fun x hx => hq x (by simp [hx])) h4]
theorem pInput_inj {d e : Nat} {ps qs : List (List UInt8)} (hd : d < 256) (he : e < 256) (hp : ∀ p ∈ ps, p.length < 4294967296) (hq : ∀ q ∈ qs, q.length < 4294967296) (h : pInput d ps = pInput e qs) : d = e ∧ ps = qs := by
  unfold pInput at h
  obtain ⟨h1, h2⟩ := List.append_inj h (by rw [pBig_length, pBig_length])
  exact ⟨pBig1_inj hd he h1, flatText_inj ps qs hp hq h2⟩
end Go.Proofs.YtdkaphebdkdfhaaDoor

namespace Go.Proofs.YtdkaphebdkdfhaaDoor
open Go Go.RowKit
set_option linter.unusedSimpArgs false
set_option linter.unusedVariables false

theorem apart_of (J : List (List UInt8)) (h : ¬ cnt J < J.length) (s t : List UInt8) (hs : s ∈ J) (ht : t ∈ J) (he : pSum [s] = pSum [t]) : s = t := Classical.byContradiction fun hne => h (cnt_lt J s t hs ht hne he)
theorem wIn_inj {a b : List UInt8} (ha : a.length = 2048) (hb : b.length = 2048) (h : wIn a = wIn b) : a = b := by
  have := (pInput_inj (by decide) (by decide) (by simp [ha]) (by simp [hb]) h).2
  simpa using this
theorem uIn_inj {a b : List UInt8} (ha : a.length = 32) (hb : b.length = 32) (h : uIn a = uIn b) : a = b := by
  have := (pInput_inj (by decide) (by decide) (by simp [ha]) (by simp [hb]) h).2
  simpa using this
theorem sIn_ne {seed : List UInt8} (hs : seed.length = 32) (index i : Nat) (h : sIn seed index i 0 = sIn seed index i 1) : False := by
  have := (pInput_inj (by decide) (by decide) (by simp [hs, pBig_length]) (by simp [hs, pBig_length]) h).2
  simp [pBig] at this
theorem pubs_two (seed : List UInt8) (index k : Nat) : pubs seed index (2 * (k + 1)) = pubs seed index (2 * k) ++ (pubAt seed index (2 * k) ++ pubAt seed index (2 * k + 1)) := by
  rw [show 2 * (k + 1) = 2 * k + 1 + 1 by omega, pubs_succ, pubs_succ, List.append_assoc]
theorem open_pubs (seed : List UInt8) (index : Nat) (e P O : List UInt8) (hO : O.length = 1024) : ∀ k, k ≤ 32 → pOpen e P O k = pubs seed index (2 * k) → ∀ i, i < k → openAt e P O i = pubAt seed index (2 * i) ++ pubAt seed index (2 * i + 1)
  | 0, _, _, i, hi => by omega
  | k + 1, hk, h, i, hi => by
    rw [pOpen_succ, pubs_two] at h
    obtain ⟨h1, h2⟩ := List.append_inj h (by rw [pOpen_length e P O k (by omega), pubs_length]; omega)
    by_cases e' : i = k
    · rw [e']; exact h2
    · exact open_pubs seed index e P O hO k (by omega) h1 i (by omega)
theorem pubAt_even (seed : List UInt8) (index i : Nat) : pubAt seed index (2 * i) = pPublic (pSecret seed index i 0) := by
  unfold pubAt; rw [show 2 * i / 2 = i by omega, show 2 * i % 2 = 0 by omega]
theorem pubAt_odd (seed : List UInt8) (index i : Nat) : pubAt seed index (2 * i + 1) = pPublic (pSecret seed index i 1) := by
  unfold pubAt; rw [show (2 * i + 1) / 2 = i by omega, show (2 * i + 1) % 2 = 1 by omega]
theorem pubs_apart (seed : List UInt8) (hs : seed.length = 32) (index : Nat) (J : List (List UInt8)) (hap : ¬ cnt J < J.length) (hw : WNoted seed index 64 J) (i : Nat) (hi : i < 32) (h : pPublic (pSecret seed index i 0) = pPublic (pSecret seed index i 1)) : False := by
  have w0 := hw (2 * i) (by omega)
  have w1 := hw (2 * i + 1) (by omega)
  rw [show 2 * i / 2 = i by omega, show 2 * i % 2 = 0 by omega] at w0
  rw [show (2 * i + 1) / 2 = i by omega, show (2 * i + 1) % 2 = 1 by omega] at w1
  have h1 := apart_of J hap _ _ w0.2 w1.2 h
  have h2 := uIn_inj (pSecret_length _ _ _ _) (pSecret_length _ _ _ _) h1
  exact sIn_ne hs index i (apart_of J hap _ _ w0.1 w1.1 h2)
theorem part_chunk (seed : List UInt8) (index : Nat) (d : List UInt8) (i : Nat) (hi : i < 32) : chunk (pParts seed index d 32) i = pSecret seed index i (pBit d i) := flat_chunk (partAt seed index d) (fun j => pSecret_length _ _ _ _) 32 i hi
theorem other_chunk (seed : List UInt8) (index : Nat) (d : List UInt8) (i : Nat) (hi : i < 32) : chunk (pOthers seed index d 32) i = pPublic (pSecret seed index i (1 - pBit d i)) := flat_chunk (otherAt seed index d) (fun j => pPublic_length _) 32 i hi
theorem word_open (seed : List UInt8) (index : Nat) (e P O : List UInt8) (hP : P.length = 1024) (hO : O.length = 1024) (J : List (List UInt8)) (hap : ¬ cnt J < J.length) (h1 : wIn (pubs seed index 64) ∈ J) (h2 : wIn (pOpen e P O 32) ∈ J) (h : pWordOf (pOpen e P O 32) = pWord seed index) : ∀ i, i < 32 → openAt e P O i = pubAt seed index (2 * i) ++ pubAt seed index (2 * i + 1) := by
  have h3 := apart_of J hap _ _ h2 h1 h
  have h4 := wIn_inj (pOpen_length e P O 32 (by omega)) (pubs_length _ _ _) h3
  exact open_pubs seed index e P O hO 32 (Nat.le_refl _) h4
theorem binds_pure (seed : List UInt8) (hs : seed.length = 32) (index : Nat) (d e : List UInt8) (J : List (List UInt8)) (hw : WNoted seed index 64 J) (h1 : wIn (pubs seed index 64) ∈ J) (h2 : wIn (pOpen e (pParts seed index d 32) (pOthers seed index d 32) 32) ∈ J)
    (h : pWordOf (pOpen e (pParts seed index d 32) (pOthers seed index d 32) 32) = pWord seed index) (hne : ¬ ∀ j, j < 32 → pBit d j = pBit e j) : cnt J < J.length := by
  refine Classical.byContradiction fun hap => hne fun i hi => ?_
  have ho := word_open seed index e _ _ (pParts_length _ _ _ _) (pOthers_length _ _ _ _) J hap h1 h2 h i hi
  have hb1 := pBit_lt d i
  have hb2 := pBit_lt e i
  refine Classical.byContradiction fun hbe => pubs_apart seed hs index J hap hw i hi ?_
  unfold openAt at ho
  rw [part_chunk seed index d i hi, other_chunk seed index d i hi, pubAt_even, pubAt_odd] at ho
  by_cases e0 : pBit e i = 0
  · rw [if_pos e0, show pBit d i = 1 by omega] at ho
    exact (List.append_inj ho (by rw [pPublic_length, pPublic_length])).1.symm
  · rw [if_neg e0, show pBit d i = 0 by omega] at ho
    exact (List.append_inj ho (by rw [pPublic_length, pPublic_length])).1.symm
theorem open_same (d e P O : List UInt8) : ∀ k, (∀ j, j < k → pBit d j = pBit e j) → pOpen e P O k = pOpen d P O k
  | 0, _ => rfl
  | k + 1, h => by
    rw [pOpen_succ, pOpen_succ, open_same d e P O k (fun j hj => h j (by omega))]
    unfold openAt
    rw [h k (by omega)]
end Go.Proofs.YtdkaphebdkdfhaaDoor

namespace Go.Proofs.YtdkaphebdkdfhaaDoor
open Go Go.RowKit
set_option linter.unusedSimpArgs false
set_option linter.unusedVariables false

theorem rIn_inj {a b c d : List UInt8} (ha : a.length = 32) (hb : b.length = 32) (hc : c.length = 32) (hd : d.length = 32) (h : rIn a b = rIn c d) : a = c ∧ b = d := by
  have := (pInput_inj (by decide) (by decide) (by simp [ha, hb]) (by simp [hc, hd]) h).2
  simpa using this
theorem KNoted_at (ds J : List (List UInt8)) (x : Nat) (hx : x < 16) (h : KNoted ds 4 0 J) : ∀ j k, k + j = 4 → KNoted ds k (x / 2 ^ k) J
  | 0, k, e => by
    have e4 : k = 4 := by omega
    rw [e4, show x / 2 ^ 4 = 0 by omega]; exact h
  | j + 1, k, e => by
    obtain ⟨_, h2, h3⟩ := KNoted_at ds J x hx h j (k + 1) (by omega)
    have e2 : x / 2 ^ (k + 1) = x / 2 ^ k / 2 := by rw [Nat.pow_succ, ← Nat.div_div_eq_div_mul]
    rw [e2] at h2 h3
    by_cases hb : x / 2 ^ k % 2 = 1
    · rw [show x / 2 ^ k = 2 * (x / 2 ^ k / 2) + 1 by omega]; exact h3
    · rw [show x / 2 ^ k = 2 * (x / 2 ^ k / 2) by omega]; exact h2
theorem kIn_noted (ds : List (List UInt8)) (hds : ds.length = 16) (J : List (List UInt8)) (x : Nat) (hx : x < 16) (h : KNoted ds 4 0 J) (k : Nat) (hk : k < 4) : kIn (ds.getD x []) x (kPath ds x) k ∈ J := by
  obtain ⟨h1, _, _⟩ := KNoted_at ds J x hx h (3 - k) (k + 1) (by omega)
  have e2 : x / 2 ^ (k + 1) = x / 2 ^ k / 2 := by rw [Nat.pow_succ, ← Nat.div_div_eq_div_mul]
  rw [e2] at h1
  unfold kIn
  rw [kPath_at ds x k hk, kClimb_path ds hds x hx k (by omega)]
  unfold pathAt
  rw [kxor1]
  generalize x / 2 ^ k = B at h1 ⊢
  by_cases hb : B % 2 = 1
  · rw [if_pos hb, if_pos hb]
    rw [show 2 * (B / 2) = B - 1 by omega, show B - 1 + 1 = B by omega] at h1
    exact h1
  · rw [if_neg hb, if_neg hb]
    rw [show 2 * (B / 2) = B by omega] at h1
    exact h1
theorem climb_bound (ds : List (List UInt8)) (hds : ds.length = 16) (h32 : ∀ d ∈ ds, d.length = 32) (leaf : List UInt8) (hl : leaf.length = 32) (x : Nat) (hx : x < 16) (J : List (List UInt8)) (hap : ¬ cnt J < J.length) (hk : ∀ k, k < 4 → kIn leaf x (kPath ds x) k ∈ J) (hn : KNoted ds 4 0 J) (h : kClimb leaf x (kPath ds x) 4 = kRoot ds) : leaf = ds.getD x [] := by
  have hl0 : (ds.getD x []).length = 32 := getD_32 h32 x (by omega)
  have hp : ∀ k, k < 4 → ((kPath ds x).getD k []).length = 32 := fun k hk => by
    rw [kPath_at ds x k hk]; exact pathAt_length ds hds h32 x hx k hk
  have go : ∀ j k, k + j = 4 → kClimb leaf x (kPath ds x) k = kClimb (ds.getD x []) x (kPath ds x) k := by
    intro j
    induction j with
    | zero =>
      intro k e
      have e4 : k = 4 := by omega
      rw [e4, h, kClimb_root ds hds x hx]
    | succ j ih =>
      intro k e
      have h1 := ih (k + 1) (by omega)
      have hk4 : k < 4 := by omega
      have a1 := hk k hk4
      have a2 := kIn_noted ds hds J x hx hn k hk4
      have l1 := kClimb_length leaf x (kPath ds x) hl k
      have l2 := kClimb_length (ds.getD x []) x (kPath ds x) hl0 k
      have l3 := hp k hk4
      unfold kIn at a1 a2
      unfold kClimb at h1
      by_cases hb : x / 2 ^ k % 2 = 1
      · rw [if_pos hb] at a1 a2 h1
        rw [if_pos hb] at h1
        exact (rIn_inj l3 l1 l3 l2 (apart_of J hap _ _ a1 a2 h1)).2
      · rw [if_neg hb] at a1 a2 h1
        rw [if_neg hb] at h1
        exact (rIn_inj l1 l3 l2 l3 (apart_of J hap _ _ a1 a2 h1)).1
  exact go 4 0 rfl
/-- What a signature of one digest says of another one: it is verified only with the same bits told, unless two inputs clash. -/
def kOk (seed : List UInt8) (x : Nat) (d e : List UInt8) : Prop := kClimb (pWordOf (pOpen e (pParts seed x d 32) (pOthers seed x d 32) 32)) x (kPath (pLeaves seed) x) 4 = kRoot (pLeaves seed)
theorem leaf_wordQ (seed : List UInt8) (x : Nat) (hx : x < 16) : (pLeaves seed).getD x [] = pWord seed x := by simp [pLeaves, hx]
theorem kOk_same (seed : List UInt8) (x : Nat) (hx : x < 16) (d e : List UInt8) (hall : ∀ j, j < 32 → pBit d j = pBit e j) : kOk seed x d e := by
  unfold kOk
  rw [open_same d e _ _ 32 hall, open_word, ← leaf_wordQ seed x hx]
  exact kClimb_root _ (pLeaves_len seed) x hx
theorem kOk_clash (seed : List UInt8) (hs : seed.length = 32) (x : Nat) (hx : x < 16) (d e : List UInt8) (J : List (List UInt8)) (hw : WAll seed 16 J) (hv : VNot e (pParts seed x d 32) (pOthers seed x d 32) x (kPath (pLeaves seed) x) J) (hn : KNoted (pLeaves seed) 4 0 J) (hok : kOk seed x d e) (hne : ¬ ∀ j, j < 32 → pBit d j = pBit e j) : cnt J < J.length := by
  refine Classical.byContradiction fun hap => hap ?_
  have h1 := climb_bound (pLeaves seed) (pLeaves_len seed) (pLeaves_32 seed) _ (pOf_length _ _) x hx J hap hv.2.2 hn hok
  rw [leaf_wordQ seed x hx] at h1
  exact binds_pure seed hs x d e J (hw x hx).1 (hw x hx).2 hv.2.1 h1 hne
theorem byte_bits (m n : Nat) (hm : m < 256) (hn : n < 256) (h : ∀ r, r < 8 → m / 2 ^ (7 - r) % 2 = n / 2 ^ (7 - r) % 2) : m = n := by
  have h0 := h 0 (by decide)
  have h1 := h 1 (by decide)
  have h2 := h 2 (by decide)
  have h3 := h 3 (by decide)
  have h4 := h 4 (by decide)
  have h5 := h 5 (by decide)
  have h6 := h 6 (by decide)
  have h7 := h 7 (by decide)
  simp at h0 h1 h2 h3 h4 h5 h6 h7
  omega
/-- The bits told are those of the first four bytes. -/
theorem bits_bytes (d e : List UInt8) : (∀ j, j < 32 → pBit d j = pBit e j) ↔ ∀ i, i < 4 → d.getD i 0 = e.getD i 0 := by
  constructor
  · intro h i hi
    refine UInt8.toNat_inj.1 (byte_bits _ _ (UInt8.toNat_lt _) (UInt8.toNat_lt _) fun r hr => ?_)
    have := h (i * 8 + r) (by omega)
    unfold pBit at this
    rw [show (i * 8 + r) / 8 = i by omega, show (i * 8 + r) % 8 = r by omega] at this
    exact this
  · intro h j hj
    unfold pBit
    rw [h (j / 8) (by omega)]
end Go.Proofs.YtdkaphebdkdfhaaDoor

namespace Go.Proofs.YtdkaphebdkdfhaaDoor
open Go Go.RowKit
set_option linter.unusedSimpArgs false
set_option linter.unusedVariables false

set_option maxHeartbeats 4000000 in
set_option maxRecDepth 100000 in
theorem rrightQ_of (root : List UInt8) (hr : root.length = 32) (home : Nat) (hh : home < 4294967296) (a b : List UInt8) (ha : a.length = 32) (hb : b.length = 32) (cs : Array Value) (hc : cs.size = 4) (res : Bool) (PP : List (List UInt8) → Prop) (L : Nat) (S : Nat → Prop) (I : List (List UInt8)) (hI : I.length ≤ 1000000000) (w : World) (hL : RLogAt w L S I)
    (hv : ∀ S' I' W, RLogAt W L S' I' → RBut S w W → (∀ k, S' k → S k ∨ w.heap.size ≤ k) → I'.length ≤ I.length + 1 → Calls Tryd.prog 11 #[.pointer (some ⟨L, 0, none⟩), .agg (bc root), .agg (bc (pClaim home a b)), .agg cs] W fun e w' => e = .returned (.bool res) ∧ QS L S' I' 100 PP W w') :
    Calls Tryd.prog 19 #[.pointer (some ⟨L, 0, none⟩), .agg (bc root), .agg (updc home a b cs)] w fun e w' => e = .returned (.bool res) ∧ QS L S I 101 PP w w' := by
  have hir := digInfo root hr
  obtain ⟨q0, q1⟩ := al2 w (.cells (bc root) 23) (.cells (updc home a b cs) 45)
  have hbW := bel2 w (.cells (bc root) 23) (.cells (updc home a b cs) 45)
  have sX : ((w.alloc (.cells (bc root) 23)).alloc (.cells (updc home a b cs) 45)).heap.size = w.heap.size + 1 + 1 := by simp
  have cl := hide fun W hL => rclaimQ_calls home hh a b ha hb L S I (by omega) W hL
  have HV := hide hv
  obtain ⟨X, hX⟩ : ∃ X, (w.alloc (.cells (bc root) 23)).alloc (.cells (updc home a b cs) 45) = X := ⟨_, rfl⟩
  rw [hX] at q0 q1 hbW sX
  have HX := hide hX
  have SX := hide sX
  have HB := hide hbW
  have LX := hide (hL.below hbW)
  have HII := hide hI
  have N0 : Hid (¬ S w.heap.size) := hide fun h => by have := hL.old _ h; omega
  have N1 : Hid (¬ S (w.heap.size + 1)) := hide fun h => by have := hL.old _ h; omega
  have Ha := hide ha
  have Hb := hide hb
  have Hc := hide hc
  obtain ⟨IN, hIN⟩ : ∃ J, pInput 7 [pBig home 4, a, b] = J := ⟨_, rfl⟩
  rw [hIN] at cl
  obtain ⟨UC, hUC⟩ : ∃ U, updc home a b cs = U := ⟨_, rfl⟩
  obtain ⟨SS, hSS⟩ : ∃ SS : World → Prop, SS = fun W => W.heap[w.heap.size]? = some (.cells (bc root) 23 (0, 0)) ∧ W.heap[w.heap.size + 1]? = some (.cells UC 45 (0, 0)) := ⟨_, rfl⟩
  have HSS : Hid (∀ W : World, SS W ↔ (W.heap[w.heap.size]? = some (.cells (bc root) 23 (0, 0)) ∧ W.heap[w.heap.size + 1]? = some (.cells UC 45 (0, 0)))) := hide fun W => by rw [hSS]
  clear hSS
  have r0 : Hid (∀ W, SS W → W.heap[w.heap.size]? = some (.cells (bc root) 23 (0, 0))) := hide fun W h => ((unhide HSS W).1 h).1
  have R1 : ∀ W, SS W → W.heap[w.heap.size + 1]? = some (.cells (updc home a b cs) 45 (0, 0)) := fun W h => by rw [hUC]; exact ((unhide HSS W).1 h).2
  have RA : Hid (∀ W, SS W → W.rangeAt (w.heap.size + 1) 1 (Lib.byteCells a)) := hide fun W h => updc_old home a b ha hb cs W _ _ (R1 W h)
  have RB : Hid (∀ W, SS W → W.rangeAt (w.heap.size + 1) 33 (Lib.byteCells b)) := hide fun W h => updc_new home a b ha hb cs W _ _ (R1 W h)
  have RS : Hid (∀ W, SS W → W.rangeAt (w.heap.size + 1) 65 cs.toList) := hide fun W h => updc_sig home a b ha hb cs hc W _ _ (R1 W h)
  have c0 : Hid (∀ W, SS W → W.cell? ⟨w.heap.size + 1, 0, none⟩ = some (.int .u32 (home : Int))) := hide fun W h => by
    rw [cell_of_row _ _ _ _ _ _ (R1 W h)]; exact updc_home home a b cs
  have hS0 : SS ({ X with drawn := X.drawn + 1 } : World) := (unhide HSS _).2 ⟨q0, by rw [← hUC]; exact q1⟩
  have Sd0 : Below X.heap.size X ({ X with drawn := X.drawn + 1 } : World) := ⟨rfl, rfl, rfl, Nat.le_refl _, fun _ _ => rfl⟩
  have HUC := hide hUC
  generalize pClaim home a b = D at *
  rw [hUC] at HX
  rw [hUC]
  clear hv q0 q1 hX ha hb hc R1 hUC hL hI sX hbW hIN
  go_enter Tryd.func19, Tryd.ntmps19
  go_wp2_with (rw [unhide HX])
  refine wp_region_held (S := SS) mixed ?_
  obtain ⟨d0, hd0⟩ : ∃ d, { X with drawn := X.drawn + 1 } = d := ⟨_, rfl⟩
  rw [hd0] at Sd0 hS0
  rw [hd0]
  clear hd0
  have HSd := hide Sd0
  clear Sd0
  refine wpAnyH_take (i := 0) rfl (by kernel_rfl) (by kernel_rfl) (by kernel_rfl) (fun _ _ _ h => h) (.inl ⟨rfl, fun _ _ => rfl⟩) hS0 ?_
  refine wpAnyH_take (i := 1) rfl (by kernel_rfl) (by kernel_rfl) (by kernel_rfl) (fun _ _ _ h => h) (yields_row (by kernel_rfl) 23 (.tmp 4) rfl w.heap.size (by kernel_rfl) 23 _ (0, 0) _ (unhide r0) Tryd.underlying23 rfl hir) hS0 ?_
  refine wpAnyH_take (i := 2) rfl (by kernel_rfl) (by kernel_rfl) (by kernel_rfl) (fun _ _ _ h => h) (.inl ⟨rfl, fun _ _ => rfl⟩) hS0 ?_
  refine wpAnyH_take (i := 3) (v := .pointer (some ⟨w.heap.size + 1, 0, none⟩)) rfl (by kernel_rfl) (by kernel_rfl) (by kernel_rfl) (fun _ _ _ h => h) (.inl ⟨by kernel_rfl, fun W _ => by go_simp⟩) hS0 ?_
  refine wpAnyH_take (i := 4) (v := .int .u32 (home : Int)) rfl (by kernel_rfl) (by kernel_rfl) (by kernel_rfl) (fun _ _ _ h => h) (.inl ⟨by kernel_rfl, fun W hW => by have c2 := unhide c0 W hW; go_simp⟩) hS0 ?_
  refine wpAnyH_take (i := 5) (v := .pointer (some ⟨w.heap.size + 1, 1, none⟩)) rfl (by kernel_rfl) (by kernel_rfl) (by kernel_rfl) (fun _ _ _ h => h) (.inl ⟨by kernel_rfl, fun W _ => by go_simp⟩) hS0 ?_
  refine wpAnyH_take (i := 6) rfl (by kernel_rfl) (by kernel_rfl) (by kernel_rfl) (fun _ _ _ h => h) (yields_mid (by kernel_rfl) 23 (.tmp 12) rfl (w.heap.size + 1) 1 (by kernel_rfl) (Lib.byteCells a) _ (unhide RA) Tryd.underlying23 rfl (by rw [Lib.byteCells_length, unhide Ha]; kernel_rfl)) hS0 ?_
  refine wpAnyH_take (i := 7) (v := .pointer (some ⟨w.heap.size + 1, 33, none⟩)) rfl (by kernel_rfl) (by kernel_rfl) (by kernel_rfl) (fun _ _ _ h => h) (.inl ⟨by kernel_rfl, fun W _ => by go_simp⟩) hS0 ?_
  refine wpAnyH_take (i := 8) rfl (by kernel_rfl) (by kernel_rfl) (by kernel_rfl) (fun _ _ _ h => h) (yields_mid (by kernel_rfl) 23 (.tmp 14) rfl (w.heap.size + 1) 33 (by kernel_rfl) (Lib.byteCells b) _ (unhide RB) Tryd.underlying23 rfl (by rw [Lib.byteCells_length, unhide Hb]; kernel_rfl)) hS0 ?_
  refine wpAnyH_take (i := 10) (v := .pointer (some ⟨w.heap.size + 1, 65, none⟩)) rfl (by kernel_rfl) (by kernel_rfl) (by kernel_rfl) (fun _ _ _ h => h) (.inl ⟨by kernel_rfl, fun W _ => by go_simp⟩) hS0 ?_
  refine wpAnyH_take (i := 11) rfl (by kernel_rfl) (by kernel_rfl) (by kernel_rfl) (fun _ _ _ h => h) (yields_mid (by kernel_rfl) 26 (.tmp 17) rfl (w.heap.size + 1) 65 (by kernel_rfl) cs.toList _ (unhide RS) Tryd.underlying26 rfl (by rw [Array.length_toList, unhide Hc]; kernel_rfl)) hS0 ?_
  refine wpAnyH_one 9 _ (by kernel_rfl) rfl ?_
  have Hs0 := hide hS0
  clear hS0
  go_wp2_with fail
  refine (unhide cl _ ((unhide LX).below (unhide HSd))).mono ?_
  rintro e w2 ⟨rfl, S2, L2, B2, M2⟩
  have hs0 := (unhide HSS _).1 (unhide Hs0)
  have hS2 : SS w2 := (unhide HSS _).2 ⟨(B2.block _ (Array.getElem?_eq_some_iff.1 hs0.1).1 (unhide N0)).trans hs0.1, (B2.block _ (Array.getElem?_eq_some_iff.1 hs0.2).1 (unhide N1)).trans hs0.2⟩
  have HB2 : Hid (RBut S w w2) := hide (((RBut.of_below (unhide HB)).then_below (unhide HSd) (unhide HB).size).trans B2 (fun k h => .inl h))
  have HM2 : Hid (∀ k, S2 k → S k ∨ w.heap.size ≤ k) := hide fun k h => (M2 k h).imp_right (fun h2 => by have := (unhide HSd).size; have := unhide SX; omega)
  have HL2 := hide L2
  have hn2 : ¬ S2 w.heap.size := fun h => (M2 _ h).elim (unhide N0) (fun h2 => by have := (unhide HSd).size; have := unhide SX; omega)
  have hn3 : ¬ S2 (w.heap.size + 1) := fun h => (M2 _ h).elim (unhide N1) (fun h2 => by have := (unhide HSd).size; have := unhide SX; omega)
  have HN2 := hide hn2
  have HN3 := hide hn3
  have hle := hide (rnoted_le IN I)
  clear L2 B2 M2 hn2 hn3 hs0
  go_wp2
  refine ⟨hS2, ?_⟩
  refine wpAnyH_one 12 _ (by kernel_rfl) rfl ?_
  have Hs2 := hide hS2
  clear hS2
  go_wp2_with fail
  refine (unhide HV S2 (rnoted IN I) _ (unhide HL2) (unhide HB2) (unhide HM2) (unhide hle)).mono ?_
  rintro e w3 ⟨rfl, S3, I3, L3, B3, M3, mo3, nt3, le3⟩
  have hs2 := (unhide HSS _).1 (unhide Hs2)
  have hS3 : SS w3 := (unhide HSS _).2 ⟨(B3.block _ (Array.getElem?_eq_some_iff.1 hs2.1).1 (unhide HN2)).trans hs2.1, (B3.block _ (Array.getElem?_eq_some_iff.1 hs2.2).1 (unhide HN3)).trans hs2.2⟩
  have HQ : Hid (QS L S I 101 PP w w3) := hide ⟨S3, I3, L3, (unhide HB2).trans B3 (unhide HM2), fun k h => (M3 k h).elim (unhide HM2 k) (fun h2 => .inr (Nat.le_trans (unhide HB2).size h2)), fun s h => mo3 s (mem_rnoted_old _ _ _ h), nt3, by have := unhide hle; omega⟩
  clear L3 B3 M3 mo3 nt3 le3 hs2
  go_wp2
  refine ⟨hS3, ?_⟩
  refine wpAnyH_one 13 _ (by kernel_rfl) rfl ?_
  go_wp2
  refine ⟨hS3, wpAnyH_done (by kernel_rfl) ?_ _⟩
  go_wp2
  go_ret
  exact ⟨rfl, unhide HQ⟩
end Go.Proofs.YtdkaphebdkdfhaaDoor

namespace Go.Proofs.YtdkaphebdkdfhaaDoor
open Go Go.RowKit
set_option linter.unusedSimpArgs false
set_option linter.unusedVariables false

set_option maxHeartbeats 1000000 in
set_option maxRecDepth 100000 in
theorem rroot6Q_calls (seed : List UInt8) (h : seed.length = 32) (n : Int) (ds : List (List UInt8)) (hds : ds.length = 16) (h32 : ∀ d ∈ ds, d.length = 32) (p : Option Addr) (c : Nat) (L : Nat) (S : Nat → Prop) (I : List (List UInt8)) (hI : I.length ≤ 1000000000000) (w : World) (hL : RLogAt w L S I) (ol : Out p S) (hD : DL w p ds) :
    Calls Tryd.prog 9 #[.agg (sgc seed n (.slice p 16 c)), .pointer (some ⟨L, 0, none⟩)] w fun e w' => e = .returned (.agg (bc (kRoot ds))) ∧ QS L S I 15 (KNoted ds 4 0) w w' := by
  obtain ⟨q0, q1⟩ := al2 w (.cells (sgc seed n (.slice p 16 c)) 33) (.cells (bc (List.replicate 32 0)) 23)
  have hb := bel2 w (.cells (sgc seed n (.slice p 16 c)) 33) (.cells (bc (List.replicate 32 0)) 23)
  have sX : ((w.alloc (.cells (sgc seed n (.slice p 16 c)) 33)).alloc (.cells (bc (List.replicate 32 0)) 23)).heap.size = w.heap.size + 1 + 1 := by simp
  have hRl := kRoot_length ds hds
  have hi := digInfo _ hRl
  have hz := zeroSize _ hRl
  have ho := bc_oneCell (kRoot ds)
  have cn := hide fun W hL ol hD => rnode6Q_calls ds hds h32 p c L 4 (by decide) 0 (by decide) S I (by omega) W hL ol hD
  have eR : (kLev ds 4).getD 0 [] = kRoot ds := rfl
  rw [eR] at cn
  have e15 : 2 ^ 4 - 1 = 15 := rfl
  rw [e15] at cn
  have c33 : ((w.alloc (.cells (sgc seed n (.slice p 16 c)) 33)).alloc (.cells (bc (List.replicate 32 0)) 23)).cell? ⟨w.heap.size, 33, none⟩ = some (.slice p 16 c) := by rw [cell_of_row _ _ _ _ _ _ q0]; exact sgc_leaves seed h n _
  have HOLD := hide hL.old
  obtain ⟨C, hC⟩ : ∃ C, sgc seed n (.slice p 16 c) = C := ⟨_, rfl⟩
  rw [hC] at q0 q1 hb sX c33
  rw [hC]
  obtain ⟨KN, hKN⟩ : ∃ K, KNoted ds 4 0 = K := ⟨_, rfl⟩
  rw [hKN] at cn ⊢
  generalize kRoot ds = R at *
  obtain ⟨X, hX⟩ : ∃ X, (w.alloc (.cells C 33)).alloc (.cells (bc (List.replicate 32 0)) 23) = X := ⟨_, rfl⟩
  rw [hX] at q0 q1 hb sX c33
  have HX := hide hX
  have SX := hide sX
  have LX := hide (hL.below hb)
  have DX := hide (hD.below hb (Nat.le_refl _))
  have HB := hide hb
  have N1 : Hid (¬ S (w.heap.size + 1)) := hide fun h => by have := hL.old _ h; omega
  have Q1 := hide q1
  clear hX hD hL hds h32 hRl eR e15 hC hKN q0 q1 hb sX
  go_enter Tryd.func9, Tryd.ntmps9
  go_upto_region 1 with fail
  change Code.wp _ _ _ _ ((w.alloc (.cells C 33)).alloc (.cells (bc (List.replicate 32 0)) 23))
  rw [unhide HX]
  go_wp2_with fail
  refine (unhide cn _ (unhide LX) ol (unhide DX)).mono ?_
  rintro e w2 ⟨rfl, S2, I2, L2, B2, M2, mo2, nt2, le2⟩
  have p1 := (B2.block _ (Array.getElem?_eq_some_iff.1 (unhide Q1)).1 (unhide N1)).trans (unhide Q1)
  have N2 : ¬ S2 (w.heap.size + 1) := fun h => (M2 _ h).elim (unhide N1) (fun h2 => by have := unhide SX; omega)
  have P1 := hide p1
  have L3 := hide (L2.kept (w' := w2.setRow (w.heap.size + 1) (bc R)) (fun k hk => setRow_other _ _ _ _ (fun e => N2 (by rw [← e]; exact hk))) (by rw [setRow_size]; exact Nat.le_refl _))
  have R2 := hide ((RBut.of_below (S := S) (unhide HB)).trans B2 (fun k h => .inl h))
  have HM2 := hide M2
  have Hmo2 := hide mo2
  have Hnt2 := hide nt2
  have Hle2 := hide le2
  clear p1 N2 L2 B2 M2 mo2 nt2 le2
  go_wp2_with (refine wpList_store_row rfl 23 (.tmp 4) (.tmp 13) rfl (w.heap.size + 1) (bc R) rfl rfl 23 _ (unhide P1) hi hz ho ?_)
  refine bodyPost_ret (results_cell_row rfl _ _ (w.heap.size + 1) _ _ _ _ rfl (setRow_heap _ _ _ _ _ _ (unhide P1)) Tryd.underlying23 rfl hi) rfl ⟨rfl, S2, I2, unhide L3, ?_, fun k h => (unhide HM2 k h).imp_right (fun h2 => by have := unhide SX; omega), unhide Hmo2, unhide Hnt2, unhide Hle2⟩
  have r := unhide R2
  exact ⟨r.os, r.tape, r.output, by rw [setRow_size]; exact r.size, fun k hk hn => (setRow_other _ _ _ _ (by omega)).trans (r.block k hk hn)⟩
end Go.Proofs.YtdkaphebdkdfhaaDoor

namespace Go.Proofs
open Go.Shelf
def Tryd.slClone_ren : Go.Shelf.Ren := ⟨fun | 41 => 38 | n => n, fun | 4 => 4 | 22 => 24 | 23 => 23 | n => n, fun n => n⟩
theorem Tryd.slClone : Go.Proofs.SlLaysE0.n41 Tryd.prog Tryd.slClone_ren := {
  mixed := by kernel_rfl
  f41 := ⟨ "slices.Clone[[]pontoon/api.Digest,pontoon/api.Digest]", by decide, Tryd.func38.trans (congrArg some (by kernel_rfl))⟩
  t4 := Tryd.underlying4
  a4 := Tryd.isAgg4
  z4 := Tryd.sizeOf4
  v4 := Tryd.zeroValue4
  t22 := Tryd.underlying24
  a22 := Tryd.isAgg24
  z22 := Tryd.sizeOf24
  v22 := Tryd.zeroValue24 }
namespace YtdkaphebdkdfhaaDoor
open Go Go.RowKit
set_option linter.unusedSimpArgs false
set_option linter.unusedVariables false

theorem flat_get : ∀ (ds : List (List UInt8)), (∀ d ∈ ds, d.length = 32) → ∀ i r, i < ds.length → r < 32 → ds.flatten[i * 32 + r]? = (ds.getD i [])[r]?
  | [], _, i, r, hi, _ => by simp at hi
  | d :: ds, h, 0, r, _, hr => by
    have hd := h d (by simp)
    rw [List.flatten_cons, List.getElem?_append_left (by omega)]
    simp
  | d :: ds, h, i + 1, r, hi, hr => by
    have hd := h d (by simp)
    rw [List.flatten_cons, List.getElem?_append_right (by omega), hd, show (i + 1) * 32 + r - 32 = i * 32 + r by omega]
    rw [flat_get ds (fun x hx => h x (by simp [hx])) i r (by simpa using hi) hr]
    simp
theorem flat_len : ∀ (ds : List (List UInt8)), (∀ d ∈ ds, d.length = 32) → ds.flatten.length = 32 * ds.length
  | [], _ => rfl
  | d :: ds, h => by
    rw [List.flatten_cons, List.length_append, h d (by simp), flat_len ds (fun x hx => h x (by simp [hx])), List.length_cons]; omega
theorem byteCells_get (l : List UInt8) (k : Nat) : (Lib.byteCells l)[k]? = l[k]?.map fun b => Value.int .u8 (b.toNat : Int) := by simp [Lib.byteCells]
theorem DL.cells {w : World} {b off : Nat} {ds : List (List UInt8)} (h : DL w (some ⟨b, off, none⟩) ds) (j : Nat) (u : Value) (hu : (Lib.byteCells ds.flatten)[j]? = some u) : w.cell? ⟨b, off + j, none⟩ = some u := by
  have hj : j < 32 * ds.length := by
    have := (List.getElem?_eq_some_iff.1 hu).1
    rwa [Lib.byteCells_length, flat_len ds h.1] at this
  have hi : j / 32 < ds.length := by omega
  obtain ⟨b', off', e, _, hc⟩ := h.2 (by intro h0; rw [h0] at hi; simp at hi)
  cases e
  have h1 := hc (j / 32) hi (j % 32) u (by
    rw [byteCells_get, ← flat_get ds h.1 (j / 32) (j % 32) hi (by omega), ← byteCells_get, show j / 32 * 32 + j % 32 = j by omega]; exact hu)
  rw [show off + j / 32 * 32 + j % 32 = off + j by omega] at h1
  exact h1
theorem DL_of_cells {w : World} {g : Nat} {t : TypeId} {cur : Array Value} {ds : List (List UInt8)} (hd : ∀ d ∈ ds, d.length = 32) (hg : w.heap[g]? = some (.cells cur t (0, 0))) (hc : cur.toList.take (ds.length * 32) = Lib.byteCells ds.flatten) : DL w (some ⟨g, 0, none⟩) ds := by
  refine ⟨hd, fun _ => ⟨g, 0, rfl, (Array.getElem?_eq_some_iff.1 hg).1, fun i hi r u hu => ?_⟩⟩
  have hr : r < 32 := by
    have := (List.getElem?_eq_some_iff.1 hu).1
    rwa [Lib.byteCells_length, getD_32 hd i hi] at this
  rw [Nat.zero_add, cell_of_row _ _ _ _ _ _ hg]
  have h1 : (Lib.byteCells ds.flatten)[i * 32 + r]? = some u := by rw [byteCells_get, flat_get ds hd i r hi hr, ← byteCells_get]; exact hu
  rw [← hc, List.getElem?_take] at h1
  split at h1
  · simpa using h1
  · cases h1
theorem clone_digs (ds : List (List UInt8)) (hlen : ds.length ≤ 1000000) (b off c : Nat) (w : World) (hD : DL w (some ⟨b, off, none⟩) ds) :
    Calls Tryd.prog 38 #[.slice (some ⟨b, off, none⟩) ds.length c] w fun e w' => (∃ g cap, e = .returned (.slice (some ⟨g, 0, none⟩) ds.length cap) ∧ w.heap.size ≤ g ∧ DL w' (some ⟨g, 0, none⟩) ds) ∧ Below w.heap.size w w' := by
  obtain ⟨i0, hi0⟩ : ∃ i, Tryd.prog.info? 23 = some i := by
    cases h : Tryd.prog.info? 23 with
    | none =>
      have : (Tryd.prog.info? 23).map (·.size) = some 32 := by kernel_rfl
      rw [h] at this
      cases this
    | some i => exact ⟨i, rfl⟩
  have hz : i0.zero = some (.agg (bc (List.replicate 32 0))) := by
    have : (Tryd.prog.info? 23).bind (·.zero) = some (.agg (bc (List.replicate 32 0))) := by kernel_rfl
    rw [hi0] at this; exact this
  have hs : i0.size = 32 := by
    have : (Tryd.prog.info? 23).map (·.size) = some 32 := by kernel_rfl
    rw [hi0] at this; simpa using this
  have hy : i0.bytes = 32 := by
    have : (Tryd.prog.info? 23).map (·.bytes) = some 32 := by kernel_rfl
    rw [hi0] at this; simpa using this
  refine (AnyE.slices_Clone Tryd.slClone i0 (.agg (bc (List.replicate 32 0))) 32 32 hi0 hz hs hy (by simp [Value.cells, bc_size]) (by decide) Tryd.sizeOf23 b off ds.length c (Lib.byteCells ds.flatten) w
    (by rw [Lib.byteCells_length, flat_len ds hD.1]; omega) (by unfold maxLen; omega) (by omega) hD.cells (fun u hu => by obtain ⟨x, _, rfl⟩ := List.mem_map.1 hu; rfl)).mono ?_
  rintro e w' ⟨v, rfl, hO, hne, hb⟩
  refine ⟨?_, hb⟩
  rcases hO.2 with ⟨rfl, _⟩ | ⟨g, cap, cur, rfl, hg, hh, _, _, _, hc⟩
  · exact absurd rfl hne
  · exact ⟨g, cap, rfl, hg, DL_of_cells hD.1 hh hc⟩
end YtdkaphebdkdfhaaDoor
end Go.Proofs
