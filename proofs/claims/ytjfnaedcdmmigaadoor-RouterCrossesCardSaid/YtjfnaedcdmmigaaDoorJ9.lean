/-
  RouterCrosses: what is sent from a chain and handled on the other one is minted; sent back and handled, it is unlocked.
-/
import Derived.Test.YtjfnaedcdmmigaaDoorJ8
import Derived.Test.YtjfnaedcdmmigaaDoorRows
import Derived.ProofKit
import Derived.OpenShut
import Derived.Deep.DeepHandedRow
import Derived.Lib.LaidTab
import Derived.LaidSub
import Derived.Test.YtjfnaedcdmmigaaDoorJ3
import Derived.Lib.LaidU8
/-
  WHAT A ROW THAT LISTS THE TWO TABLES OF PACKAGE UTF8 ALONE GIVES THE WALKS; a world for the witness.
-/
namespace Go.Proofs.YtjfnaedcdmmigaaDoor
open Go Go.RowKit
set_option linter.unusedSimpArgs false
set_option linter.unusedVariables false

/-- A purse in a variable. -/
structure PV (w : World) (G : Nat) (v1 v2 : Value) (ts : List Tkn) (hs : List Hol) : Prop where
  row : w.heap[G]? = some (.cells #[v1, v2] 27 (0, 0))
  mem : PM w (.agg #[v1, v2]) ts hs
theorem PV.below {w w' : World} {G : Nat} {v1 v2 : Value} {ts : List Tkn} {hs : List Hol} (h : PV w G v1 v2 ts hs) (hb : Below w.heap.size w w') : PV w' G v1 v2 ts hs :=
  ⟨Below.at hb (Array.getElem?_eq_some_iff.1 h.row).1 h.row, h.mem.below hb⟩
theorem PM_nil (w : World) : PM w (.agg #[.slice none 0 0, .slice none 0 0]) [] [] := ⟨none, 0, none, 0, rfl, fun h => absurd rfl h, fun h => absurd rfl h⟩
set_option maxHeartbeats 4000000 in
set_option maxRecDepth 1000000 in
theorem rawake_calls (w : World) (hU : UTabs w) : Calls Tryd.prog 22 #[] w fun e w' => e = .returned (.bool true) ∧ Below w.heap.size w w' := by
  have CH : Hid (∀ W, Calls Tryd.prog 26 #[.agg #[.slice none 0 0, .slice none 0 0], .int .u32 1, .string ⟨#[98]⟩, .agg #[.int .u32 2, .int .u32 0, .int .u32 1, .string ⟨#[97]⟩, .string ⟨#[114, 111, 117, 116, 101, 114]⟩, .string ⟨#[]⟩]] W fun e w' => (∃ v', e = .returned (.tuple #[v', .nilIface, .int .i64 39]) ∧ PO w' W.heap.size v' [] []) ∧ Below W.heap.size W w') := hide fun W => handleN_calls [] [] (by simp) (by simp) (.agg #[.slice none 0 0, .slice none 0 0]) 1 [98] 2 0 1 [97] rName [] (by decide) W (PM_nil W)
  have CS : Hid (∀ W, Calls Tryd.prog 49 #[.agg #[.string ⟨#[97]⟩, .string ⟨#[104, 105]⟩, .int .u64 0, .int .i64 0, .slice none 0 0, .slice none 0 0, .slice none 0 0]] W fun e w' => e = .returned (.tuple #[.string (str (Pl.sa [97] [104, 105]).bytes.1), .int .i64 (Pl.sa [97] [104, 105]).bytes.2]) ∧ Below W.heap.size W w') := hide fun W => say_calls [97] [104, 105] (by simp) (by simp) 0 0 (.slice none 0 0) (.slice none 0 0) (.slice none 0 0) W
  have e1 : (Pl.sa [97] [104, 105]).bytes.2 = 0 := by decide +kernel
  have e2 : (str (Pl.sa [97] [104, 105]).bytes.1).size = 12 := by rw [str_size]; decide +kernel
  rw [e1] at CS
  generalize str (Pl.sa [97] [104, 105]).bytes.1 = BB at *
  have PS := hide fun v1 v2 => purSz v1 v2
  have HU := hide hU
  have UW : Hid (∀ W, Below w.heap.size w W → UTabs W) := hide fun W hW => hU.below' hW
  clear hU e1
  go_enter Tryd.func22, Tryd.ntmps22
  go_wp2_with fail
  refine (unhide CH _).mono ?_
  rintro e w1 ⟨⟨v', rfl, po⟩, b1⟩
  obtain ⟨x1, x2, rfl, one⟩ := po.parts
  have B1 := hide b1
  clear b1 po CH
  go_upto_region 2 with (refine wpList_store_newV rfl 27 (.tmp 1) (.tmp 10) rfl w1 #[.slice none 0 0, .slice none 0 0] _ #[x1, x2] rfl rfl (unhide PS _ _) rfl one ?_; intro w3 q3 b3 z3)
  have B3 := hide ((unhide B1).trans (b3.mono (unhide B1).size))
  clear q3 b3 z3 B1
  go_wp2_with fail
  refine (unhide CS _).mono ?_
  rintro e w4 ⟨rfl, b4⟩
  have B4 := hide ((unhide B3).trans (b4.mono (unhide B3).size))
  clear b4 B3 CS
  go_wp2
  go_ret
  exact ⟨rfl, unhide B4⟩
set_option maxHeartbeats 4000000 in
set_option maxRecDepth 1000000 in
theorem routerCrosses_walk (h n m : Nat) (hh : h < 18446744073709551616) (hn : n < 18446744073709551616) (hm : m < 18446744073709551616) (w : World) (hU : UTabs w) :
    Calls Tryd.prog 6 #[.int .u64 (h : Int), .int .u64 (n : Int), .int .u64 (m : Int)] w fun e w' => e = .returned (.bool true) ∧ Below w.heap.size w w' := by
  have CA := hide fun W t => rawake_calls W t
  have CE : Hid (∀ W, UTabs W → Calls Tryd.prog 23 #[.agg #[.slice none 0 0, .slice none 0 0], .int .u32 1, .string ⟨#[109, 105, 110, 116]⟩, .int .u64 0] W fun e w' => (∃ v', e = .returned (.tuple #[v', .int .i64 0]) ∧ PO w' W.heap.size v' [⟨1, tMint, 0, 0, 0, 0, 0⟩] (hW tAda 0)) ∧ Below W.heap.size W w') := hide fun W t => by
    have c := enlist_calls [] [] (by simp) (by simp) (by simp) (.agg #[.slice none 0 0, .slice none 0 0]) 1 tMint (by decide) 0 W t (PM_nil W)
    rw [one_enlist] at c
    exact c
  have CE2 : Hid (∀ W, UTabs W → Calls Tryd.prog 23 #[.agg #[.slice none 0 0, .slice none 0 0], .int .u32 1, .string ⟨#[109, 105, 110, 116]⟩, .int .u64 (m : Int)] W fun e w' => (∃ v', e = .returned (.tuple #[v', .int .i64 0]) ∧ PO w' W.heap.size v' [⟨1, tMint, m, 0, 0, 0, 0⟩] (hW tBob 0)) ∧ Below W.heap.size W w') := hide fun W t => by
    have c := enlist_calls [] [] (by simp) (by simp) (by simp) (.agg #[.slice none 0 0, .slice none 0 0]) 1 tMint (by decide) m W t (PM_nil W)
    rw [one_enlist] at c
    exact c
  have CG : Hid (∀ v W, UTabs W → PM W v [⟨1, tMint, 0, 0, 0, 0, 0⟩] (hW tAda 0) → Calls Tryd.prog 24 #[v, .int .u32 1, .string ⟨#[109, 105, 110, 116]⟩, .string ⟨#[97, 100, 97]⟩, .int .u64 (h : Int)] W fun e w' => (∃ v', e = .returned (.tuple #[v', .int .i64 0]) ∧ PO w' W.heap.size v' [⟨1, tMint, 0, 0, 0, 0, 0⟩] (hW tAda h)) ∧ Below W.heap.size W w') := hide fun v W t hP => by
    have c := grant_calls [⟨1, tMint, 0, 0, 0, 0, 0⟩] (hW tAda 0) (by simp) (by have := hW_len tAda 0; omega) (hW_ok tAda (by decide) 0 (by decide)) v 1 tMint tAda (by decide) (by decide) h hh W t hP
    rw [hW_grant _ rfl rfl tAda right_ada 0 h (by omega), Nat.zero_add] at c
    exact c
  have tok : ∀ c l u i b : Nat, c < 18446744073709551616 → l < 18446744073709551616 → u < 18446744073709551616 → i < 18446744073709551616 → b < 18446744073709551616 → ∀ t ∈ [(⟨1, tMint, c, l, u, i, b⟩ : Tkn)], t.ok := fun c l u i b h1 h2 h3 h4 h5 t ht => by
    simp at ht; subst ht; exact ⟨show (1 : Nat) < 4294967296 by decide, show tMint.length ≤ 1000 by decide, h1, h2, h3, h4, h5⟩
  -- what sets out from the first chain
  have CS : Hid (∀ v W, UTabs W → PM W v [⟨1, tMint, 0, 0, 0, 0, 0⟩] (hW tAda h) → Calls Tryd.prog 25 #[v, .int .u32 1, .agg #[.string ⟨#[97, 100, 97]⟩, .int .u32 1, .string ⟨#[109, 105, 110, 116]⟩, .string ⟨#[98, 111, 98]⟩, .int .u64 (n : Int), .int .u64 0, .int .i64 0, .slice none 0 0, .slice none 0 0, .slice none 0 0]] W fun e w' => (∃ v', e = .returned (.tuple #[v', .string (str (pSend [⟨1, tMint, 0, 0, 0, 0, 0⟩] (hW tAda h) 1 tAda 1 tMint tBob n).2.2.1), .int .i64 (pSend [⟨1, tMint, 0, 0, 0, 0, 0⟩] (hW tAda h) 1 tAda 1 tMint tBob n).2.2.2]) ∧ PO w' W.heap.size v' (pSend [⟨1, tMint, 0, 0, 0, 0, 0⟩] (hW tAda h) 1 tAda 1 tMint tBob n).1 (pSend [⟨1, tMint, 0, 0, 0, 0, 0⟩] (hW tAda h) 1 tAda 1 tMint tBob n).2.1) ∧ Below W.heap.size W w') := hide fun v W t hP =>
    send_calls [⟨1, tMint, 0, 0, 0, 0, 0⟩] (hW tAda h) (by simp) (by have := hW_len tAda h; omega) (tok 0 0 0 0 0 (by decide) (by decide) (by decide) (by decide) (by decide)) (hW_ok tAda (by decide) h hh) v 1 tAda 1 (by decide) tMint tBob (by decide) (by decide) (by decide) n hn 0 0 (.slice none 0 0) (.slice none 0 0) (.slice none 0 0) W t hP
  have sB0 : n = 0 → pSend [⟨1, tMint, 0, 0, 0, 0, 0⟩] (hW tAda h) 1 tAda 1 tMint tBob n = ([⟨1, tMint, 0, 0, 0, 0, 0⟩], hW tAda h, [], 4) := fun h0 => by
    unfold pSend pLeave
    rw [if_pos rfl, hW_lock _ rfl rfl tAda h n (by simpa using hn), tr_bytes tBob right_bob, if_neg (show ¬ h < n by omega), if_pos h0]
    simp
  have sB1 : h < n → pSend [⟨1, tMint, 0, 0, 0, 0, 0⟩] (hW tAda h) 1 tAda 1 tMint tBob n = ([⟨1, tMint, 0, 0, 0, 0, 0⟩], hW tAda h, [], 11) := fun h1 => by
    unfold pSend pLeave
    rw [if_pos rfl, hW_lock _ rfl rfl tAda h n (by simpa using hn), if_pos h1]
    simp
  have sGood : ¬ (n = 0 ∨ h < n) → pSend [⟨1, tMint, 0, 0, 0, 0, 0⟩] (hW tAda h) 1 tAda 1 tMint tBob n = ([⟨1, tMint, 0, n, 0, 0, 0⟩], hW tAda (h - n), (Pl.tr 1 tMint tBob n).bytes.1, 0) := fun hb => by
    unfold pSend pLeave
    rw [if_pos rfl, hW_lock _ rfl rfl tAda h n (by simpa using hn), tr_bytes tBob right_bob, if_neg (show ¬ h < n by omega), if_neg (show ¬ n = 0 by omega)]
    simp
  have hb1 : ¬ n = 0 → pPRead (Pl.tr 1 tMint tBob n).bytes.1 = (.tr 1 tMint tBob n, 0) := fun h0 => (pl_back (.tr 1 tMint tBob n) ⟨by decide, hn⟩ (by rw [tr_bytes tBob right_bob, if_neg h0])).1
  have hb2 : ¬ n = 0 → pPRead (Pl.tr 1 tMint tAda n).bytes.1 = (.tr 1 tMint tAda n, 0) := fun h0 => (pl_back (.tr 1 tMint tAda n) ⟨by decide, hn⟩ (by rw [tr_bytes tAda right_ada, if_neg h0])).1
  have hl : ∀ who : List UInt8, who.length = 3 → (Pl.tr 1 tMint who n).bytes.1.length ≤ 100000 := fun who hw => tr_len who hw n
  have hR : pIsR rName rName rName = true := by decide
  -- what arrives on the second chain
  have CHb : Hid (¬ n = 0 → ∀ v W, UTabs W → PM W v [⟨1, tMint, m, 0, 0, 0, 0⟩] (hW tBob 0) → Calls Tryd.prog 26 #[v, .int .u32 2, .string ⟨#[114, 111, 117, 116, 101, 114]⟩, .agg #[.int .u32 1, .int .u32 0, .int .u32 2, .string ⟨#[114, 111, 117, 116, 101, 114]⟩, .string ⟨#[114, 111, 117, 116, 101, 114]⟩, .string (str (Pl.tr 1 tMint tBob n).bytes.1)]] W fun e w' => (∃ v', e = .returned (.tuple #[v', pHanV (if n ≤ m then 0 else 12) (Pl.tr 1 tMint tBob n).val, .int .i64 ((if n ≤ m then 0 else 12 : Nat) : Int)]) ∧ PO w' W.heap.size v' (if n ≤ m then [⟨1, tMint, m, 0, 0, n, 0⟩] else [⟨1, tMint, m, 0, 0, 0, 0⟩]) (if n ≤ m then hW tBob n else hW tBob 0)) ∧ Below W.heap.size W w') := hide fun h0 v W t hP => by
    have c := handleT_calls [⟨1, tMint, m, 0, 0, 0, 0⟩] (hW tBob 0) (by simp) (by have := hW_len tBob 0; omega) (tok m 0 0 0 0 hm (by decide) (by decide) (by decide) (by decide)) (hW_ok tBob (by decide) 0 (by decide)) v 2 rName 1 0 2 rName rName (Pl.tr 1 tMint tBob n).bytes.1 hR 1 tMint tBob n (hb1 h0) (hl tBob rfl) (by decide) (by decide) hn W t hP
    have e : pArr [⟨1, tMint, m, 0, 0, 0, 0⟩] (hW tBob 0) 2 1 1 tMint tBob n = ((if n ≤ m then [⟨1, tMint, m, 0, 0, n, 0⟩] else [⟨1, tMint, m, 0, 0, 0, 0⟩]), (if n ≤ m then hW tBob n else hW tBob 0), (if n ≤ m then 0 else 12)) := by
      unfold pArr
      rw [if_neg (show ¬ (1 : Nat) = 2 by decide), if_pos rfl, hW_mint _ rfl rfl tBob right_bob 0 n (by simpa using hn) (by simpa using hn)]
      by_cases hc : n ≤ m <;> simp [hc]
    rw [e] at c
    exact c
  -- what sets out from there
  have CSb : Hid (∀ v W, UTabs W → PM W v [⟨1, tMint, m, 0, 0, n, 0⟩] (hW tBob n) → ¬ n = 0 → Calls Tryd.prog 25 #[v, .int .u32 2, .agg #[.string ⟨#[98, 111, 98]⟩, .int .u32 1, .string ⟨#[109, 105, 110, 116]⟩, .string ⟨#[97, 100, 97]⟩, .int .u64 (n : Int), .int .u64 0, .int .i64 0, .slice none 0 0, .slice none 0 0, .slice none 0 0]] W fun e w' => (∃ v', e = .returned (.tuple #[v', .string (str (Pl.tr 1 tMint tAda n).bytes.1), .int .i64 0]) ∧ PO w' W.heap.size v' [⟨1, tMint, m, 0, 0, n, n⟩] (hW tBob 0)) ∧ Below W.heap.size W w') := hide fun v W t hP h0 => by
    have c := send_calls [⟨1, tMint, m, 0, 0, n, 0⟩] (hW tBob n) (by simp) (by have := hW_len tBob n; omega) (tok m 0 0 n 0 hm (by decide) (by decide) hn (by decide)) (hW_ok tBob (by decide) n hn) v 2 tBob 1 (by decide) tMint tAda (by decide) (by decide) (by decide) n hn 0 0 (.slice none 0 0) (.slice none 0 0) (.slice none 0 0) W t hP
    have e : pSend [⟨1, tMint, m, 0, 0, n, 0⟩] (hW tBob n) 2 tBob 1 tMint tAda n = ([⟨1, tMint, m, 0, 0, n, n⟩], hW tBob 0, (Pl.tr 1 tMint tAda n).bytes.1, 0) := by
      unfold pSend pLeave
      rw [if_neg (show ¬ (1 : Nat) = 2 by decide), hW_burn _ rfl rfl tBob n n (by simpa using hn) (by omega), tr_bytes tAda right_ada, if_neg h0]
      simp
    rw [e] at c
    exact c
  -- and comes back
  have CHa : Hid (¬ n = 0 → ¬ h < n → ∀ v W, UTabs W → PM W v [⟨1, tMint, 0, n, 0, 0, 0⟩] (hW tAda (h - n)) → Calls Tryd.prog 26 #[v, .int .u32 1, .string ⟨#[114, 111, 117, 116, 101, 114]⟩, .agg #[.int .u32 2, .int .u32 0, .int .u32 1, .string ⟨#[114, 111, 117, 116, 101, 114]⟩, .string ⟨#[114, 111, 117, 116, 101, 114]⟩, .string (str (Pl.tr 1 tMint tAda n).bytes.1)]] W fun e w' => (∃ v', e = .returned (.tuple #[v', (Pl.tr 1 tMint tAda n).val, .int .i64 0]) ∧ PO w' W.heap.size v' [⟨1, tMint, 0, n, n, 0, 0⟩] (hW tAda h)) ∧ Below W.heap.size W w') := hide fun h0 hlt v W t hP => by
    have c := handleT_calls [⟨1, tMint, 0, n, 0, 0, 0⟩] (hW tAda (h - n)) (by simp) (by have := hW_len tAda (h - n); omega) (tok 0 n 0 0 0 (by decide) hn (by decide) (by decide) (by decide)) (hW_ok tAda (by decide) (h - n) (by omega)) v 1 rName 2 0 1 rName rName (Pl.tr 1 tMint tAda n).bytes.1 hR 1 tMint tAda n (hb2 h0) (hl tAda rfl) (by decide) (by decide) hn W t hP
    have e : pArr [⟨1, tMint, 0, n, 0, 0, 0⟩] (hW tAda (h - n)) 1 2 1 tMint tAda n = ([⟨1, tMint, 0, n, n, 0, 0⟩], hW tAda h, 0) := by
      unfold pArr
      rw [if_pos rfl, hW_unlock _ rfl rfl tAda right_ada (h - n) n (by simp) (by simpa using hn) (by omega), show h - n + n = h by omega]
      simp
    rw [e] at c
    exact c
  -- how much is held
  have CD : Hid (∀ ts who x v W, who.length ≤ 1000 → ts.length ≤ 1000 → PM W v ts (hW who x) → Calls Tryd.prog 27 #[v, .int .u32 1, .string ⟨#[109, 105, 110, 116]⟩, .string (str who)] W fun e w' => e = .returned (.int .u64 (x : Int)) ∧ Below W.heap.size W w') := hide fun ts who x v W hw ht hP => by
    have c := heldN_calls ts (hW who x) ht (by have := hW_len who x; omega) v 1 tMint who W hP
    rw [hW_he] at c
    exact c
  have CM : Hid (∀ t who x v1 v2 W, PM W v1 [t] (hW who x) → PM W v2 [t] (hW who x) → Calls Tryd.prog 10 #[v1, v2] W fun e w' => e = .returned (.bool true) ∧ Below W.heap.size W w') := hide fun t who x v1 v2 W a b => psame_calls [t] (hW who x) (by simp) (by have := hW_len who x; omega) v1 v2 W a b
  have PS := hide fun v1 v2 => purSz v1 v2
  have HU := hide hU
  have UW : Hid (∀ W, Below w.heap.size w W → UTabs W) := hide fun W hW => hU.below' hW
  have HH := hide (And.intro hh (And.intro hn hm))
  have SB0 := hide sB0
  have SB1 := hide sB1
  have SG := hide sGood
  generalize pSend [⟨1, tMint, 0, 0, 0, 0, 0⟩] (hW tAda h) 1 tAda 1 tMint tBob n = SN at *
  generalize (Pl.tr 1 tMint tBob n).bytes.1 = BY1 at *
  generalize (Pl.tr 1 tMint tAda n).bytes.1 = BY2 at *
  generalize (Pl.tr 1 tMint tBob n).val = VA1 at *
  generalize (Pl.tr 1 tMint tAda n).val = VA2 at *
  clear hU hh hn hm sB0 sB1 sGood hb1 hb2 hl hR tok
  go_enter Tryd.func6, Tryd.ntmps6
  go_wp2_with fail
  refine (unhide CA _ (unhide HU)).mono ?_
  rintro e w1 ⟨rfl, b1⟩
  have Zw1 : Hid (Below w.heap.size w w1) := hide b1
  clear b1 CA HU
  go_wp2_with fail
  refine (unhide CE _ (unhide UW _ (unhide Zw1))).mono ?_
  rintro e aP1 ⟨⟨v', rfl, po⟩, b2⟩
  obtain ⟨P1a, P1b, rfl, oneP1⟩ := po.parts
  have ZaP1 : Hid (Below w.heap.size w aP1) := hide ((unhide Zw1).trans (b2.mono (unhide Zw1).size))
  have PO2 := hide po
  clear b2 po CE Zw1
  go_upto_region 4 with (refine wpList_store_newV rfl 27 (.tmp 7) (.tmp 27) rfl aP1 #[.slice none 0 0, .slice none 0 0] _ #[P1a, P1b] rfl rfl (unhide PS _ _) rfl oneP1 ?_; intro cP1 q3 b3 z3)
  have ZcP1 : Hid (Below w.heap.size w cP1) := hide ((unhide ZaP1).trans (b3.mono (unhide ZaP1).size))
  have PAcP1 : Hid (PV cP1 aP1.heap.size P1a P1b [⟨1, tMint, 0, 0, 0, 0, 0⟩] (hW tAda 0)) := hide ⟨q3, ((unhide PO2).below b3).mem⟩
  have G7L : Hid (w.heap.size ≤ aP1.heap.size) := hide (unhide ZaP1).size
  obtain ⟨G7, hG⟩ : ∃ G, aP1.heap.size = G := ⟨_, rfl⟩
  rw [hG] at PAcP1 G7L
  simp only [hG]
  clear q3 b3 z3 hG PO2 ZaP1
  go_wp2_with (refine wpList_load_row rfl 27 (.tmp 7) rfl G7 rfl 27 _ (0, 0) _ (unhide PAcP1).row Tryd.underlying27 rfl (unhide PS _ _) ?_)
  refine (unhide CG _ _ (unhide UW _ (unhide ZcP1)) (unhide PAcP1).mem).mono ?_
  rintro e ag ⟨⟨v', rfl, po⟩, b2⟩
  obtain ⟨g1, g2, rfl, oneg⟩ := po.parts
  have Zag : Hid (Below w.heap.size w ag) := hide ((unhide ZcP1).trans (b2.mono (unhide ZcP1).size))
  have rg := Below.at b2 (Array.getElem?_eq_some_iff.1 (unhide PAcP1).row).1 (unhide PAcP1).row
  have pg := po.other (w' := ag.setRow G7 #[g1, g2]) (fun k hk => setRow_other _ _ _ _ hk) _ _ (by decide) (by decide) rg
  have PAcg : Hid (PV (ag.setRow G7 #[g1, g2]) G7 g1 g2 [⟨1, tMint, 0, 0, 0, 0, 0⟩] (hW tAda h)) := hide ⟨setRow_heap _ _ _ _ _ _ rg, pg.mem⟩
  have Zcg : Hid (Below w.heap.size w (ag.setRow G7 #[g1, g2])) := hide ((unhide Zag).trans (below_setRow (Below.refl _ _) (unhide G7L) _))
  clear b2 po CG pg
  go_upto_region 5 with (refine wpList_store_row rfl 27 (.tmp 7) (.tmp 33) rfl G7 #[g1, g2] rfl rfl 27 _ rg (unhide PS _ _) rfl oneg ?_)
  obtain ⟨cg, hcg⟩ : ∃ W, ag.setRow G7 #[g1, g2] = W := ⟨_, rfl⟩
  rw [hcg] at PAcg Zcg
  rw [hcg]
  clear hcg rg Zag PAcP1 ZcP1
  go_wp2_with fail
  refine (unhide CE2 _ (unhide UW _ (unhide Zcg))).mono ?_
  rintro e aP2 ⟨⟨v', rfl, po⟩, b2⟩
  obtain ⟨P2a, P2b, rfl, oneP2⟩ := po.parts
  have ZaP2 : Hid (Below w.heap.size w aP2) := hide ((unhide Zcg).trans (b2.mono (unhide Zcg).size))
  have PO2 := hide po
  have PAaP2 := hide ((unhide PAcg).below b2)
  clear b2 po CE2 PAcg Zcg
  go_upto_region 6 with (refine wpList_store_newV rfl 27 (.tmp 9) (.tmp 39) rfl aP2 #[.slice none 0 0, .slice none 0 0] _ #[P2a, P2b] rfl rfl (unhide PS _ _) rfl oneP2 ?_; intro cP2 q3 b3 z3)
  have ZcP2 : Hid (Below w.heap.size w cP2) := hide ((unhide ZaP2).trans (b3.mono (unhide ZaP2).size))
  have PBcP2 : Hid (PV cP2 aP2.heap.size P2a P2b [⟨1, tMint, m, 0, 0, 0, 0⟩] (hW tBob 0)) := hide ⟨q3, ((unhide PO2).below b3).mem⟩
  have PAcP2 := hide ((unhide PAaP2).below b3)
  have G9L : Hid (w.heap.size ≤ aP2.heap.size) := hide (unhide ZaP2).size
  obtain ⟨G9, hG⟩ : ∃ G, aP2.heap.size = G := ⟨_, rfl⟩
  rw [hG] at PBcP2 G9L
  simp only [hG]
  clear q3 b3 z3 hG PO2 PAaP2 ZaP2
  go_wp2_with (refine wpList_load_row rfl 27 (.tmp 7) rfl G7 rfl 27 _ (0, 0) _ (unhide PAcP2).row Tryd.underlying27 rfl (unhide PS _ _) ?_)
  refine (unhide CS _ _ (unhide UW _ (unhide ZcP2)) (unhide PAcP2).mem).mono ?_
  rintro e aP3 ⟨⟨v', rfl, po⟩, b2⟩
  obtain ⟨P3a, P3b, rfl, oneP3⟩ := po.parts
  have ZaP3 : Hid (Below w.heap.size w aP3) := hide ((unhide ZcP2).trans (b2.mono (unhide ZcP2).size))
  have PO2 := hide po
  have PAaP3 := hide ((unhide PAcP2).below b2)
  have PBaP3 := hide ((unhide PBcP2).below b2)
  clear b2 po CS PAcP2 PBcP2 ZcP2
  go_upto_region 7 with (refine wpList_store_newV rfl 27 (.tmp 11) (.tmp 46) rfl aP3 #[.slice none 0 0, .slice none 0 0] _ #[P3a, P3b] rfl rfl (unhide PS _ _) rfl oneP3 ?_; intro cP3 q3 b3 z3)
  have ZcP3 : Hid (Below w.heap.size w cP3) := hide ((unhide ZaP3).trans (b3.mono (unhide ZaP3).size))
  have PXcP3 : Hid (PV cP3 aP3.heap.size P3a P3b SN.1 SN.2.1) := hide ⟨q3, ((unhide PO2).below b3).mem⟩
  have PAcP3 := hide ((unhide PAaP3).below b3)
  have PBcP3 := hide ((unhide PBaP3).below b3)
  have GXL : Hid (w.heap.size ≤ aP3.heap.size) := hide (unhide ZaP3).size
  obtain ⟨GX, hG⟩ : ∃ G, aP3.heap.size = G := ⟨_, rfl⟩
  rw [hG] at PXcP3 GXL
  simp only [hG]
  clear q3 b3 z3 hG PO2 PAaP3 PBaP3 ZaP3
  by_cases h0 : n = 0
  · have hS := unhide SB0 h0
    subst hS
    subst h0
    clear SB0 SB1 SG CHb CSb CHa CD
    go_wp2_with (first
      | (refine wpList_load_row_gd rfl 27 (.tmp 11) rfl GX rfl 27 _ (0, 0) _ (unhide PXcP3).row Tryd.underlying27 rfl (unhide PS _ _) ?_)
      | (refine wpList_load_row_gd rfl 27 (.tmp 7) rfl G7 rfl 27 _ (0, 0) _ (unhide PAcP3).row Tryd.underlying27 rfl (unhide PS _ _) ?_))
    refine (unhide CM _ _ _ _ _ _ (unhide PXcP3).mem (unhide PAcP3).mem).mono ?_
    rintro e wz ⟨rfl, bz⟩
    have FZ := hide ((unhide ZcP3).trans (bz.mono (unhide ZcP3).size))
    clear bz
    go_wp2_with fail
    go_ret
    exact ⟨rfl, unhide FZ⟩
  · by_cases hlt : h < n
    · have hS := unhide SB1 hlt
      subst hS
      have d0 : ((n : Int) == 0) = false := by simp; omega
      have d0' : ¬ (n : Int) = 0 := by omega
      have d1 : (h : Int) < (n : Int) := by omega
      clear SB0 SB1 SG CHb CSb CHa CD h0 hlt
      go_wp2_with (first
        | (refine wpList_load_row_gd rfl 27 (.tmp 11) rfl GX rfl 27 _ (0, 0) _ (unhide PXcP3).row Tryd.underlying27 rfl (unhide PS _ _) ?_)
        | (refine wpList_load_row_gd rfl 27 (.tmp 7) rfl G7 rfl 27 _ (0, 0) _ (unhide PAcP3).row Tryd.underlying27 rfl (unhide PS _ _) ?_))
      refine (unhide CM _ _ _ _ _ _ (unhide PXcP3).mem (unhide PAcP3).mem).mono ?_
      rintro e wz ⟨rfl, bz⟩
      have FZ := hide ((unhide ZcP3).trans (bz.mono (unhide ZcP3).size))
      clear bz
      go_wp2_with fail
      go_ret
      exact ⟨rfl, unhide FZ⟩
    · have hS := unhide SG (fun e => e.elim h0 hlt)
      subst hS
      have d0 : ((n : Int) == 0) = false := by simp; omega
      have d0' : ¬ (n : Int) = 0 := by omega
      have d1 : ¬ (h : Int) < (n : Int) := by omega
      have H0 := hide h0
      have HLT := hide hlt
      clear SB0 SB1 SG h0 hlt
      go_wp2_with (refine wpList_load_row rfl 27 (.tmp 9) rfl G9 rfl 27 _ (0, 0) _ (unhide PBcP3).row Tryd.underlying27 rfl (unhide PS _ _) ?_)
      refine (unhide CHb (unhide H0) _ _ (unhide UW _ (unhide ZcP3)) (unhide PBcP3).mem).mono ?_
      rintro e aP4 ⟨⟨v', rfl, po⟩, b2⟩
      obtain ⟨P4a, P4b, rfl, oneP4⟩ := po.parts
      have ZaP4 : Hid (Below w.heap.size w aP4) := hide ((unhide ZcP3).trans (b2.mono (unhide ZcP3).size))
      have PO2 := hide po
      have PAaP4 := hide ((unhide PAcP3).below b2)
      have PBaP4 := hide ((unhide PBcP3).below b2)
      have PXaP4 := hide ((unhide PXcP3).below b2)
      clear b2 po CHb d0 d0' d1 PAcP3 PBcP3 PXcP3 ZcP3
      go_upto_region 10 with (refine wpList_store_newV rfl 27 (.tmp 14) (.tmp 68) rfl aP4 #[.slice none 0 0, .slice none 0 0] _ #[P4a, P4b] rfl rfl (unhide PS _ _) rfl oneP4 ?_; intro cP4 q3 b3 z3)
      have ZcP4 : Hid (Below w.heap.size w cP4) := hide ((unhide ZaP4).trans (b3.mono (unhide ZaP4).size))
      have PYcP4 : Hid (PV cP4 aP4.heap.size P4a P4b (if n ≤ m then [⟨1, tMint, m, 0, 0, n, 0⟩] else [⟨1, tMint, m, 0, 0, 0, 0⟩]) (if n ≤ m then hW tBob n else hW tBob 0)) := hide ⟨q3, ((unhide PO2).below b3).mem⟩
      have PAcP4 := hide ((unhide PAaP4).below b3)
      have PBcP4 := hide ((unhide PBaP4).below b3)
      have PXcP4 := hide ((unhide PXaP4).below b3)
      have GYL : Hid (w.heap.size ≤ aP4.heap.size) := hide (unhide ZaP4).size
      obtain ⟨GY, hG⟩ : ∃ G, aP4.heap.size = G := ⟨_, rfl⟩
      rw [hG] at PYcP4 GYL
      simp only [hG]
      clear q3 b3 z3 hG PO2 PAaP4 PBaP4 PXaP4 ZaP4
      by_cases hc : n ≤ m
      · have d2 : ¬ (m : Int) < (n : Int) := by omega
        rw [if_pos hc, if_pos hc] at PYcP4
        simp only [if_pos hc]
        clear hc
        go_wp2_with (refine wpList_load_row rfl 27 (.tmp 14) rfl GY rfl 27 _ (0, 0) _ (unhide PYcP4).row Tryd.underlying27 rfl (unhide PS _ _) ?_)
        refine (unhide CSb _ _ (unhide UW _ (unhide ZcP4)) (unhide PYcP4).mem (unhide H0)).mono ?_
        rintro e aP5 ⟨⟨v', rfl, po⟩, b2⟩
        obtain ⟨P5a, P5b, rfl, oneP5⟩ := po.parts
        have ZaP5 : Hid (Below w.heap.size w aP5) := hide ((unhide ZcP4).trans (b2.mono (unhide ZcP4).size))
        have PO2 := hide po
        have PXaP5 := hide ((unhide PXcP4).below b2)
        have PYaP5 := hide ((unhide PYcP4).below b2)
        clear b2 po CSb PXcP4 PYcP4 ZcP4
        go_upto_region 13 with (refine wpList_store_newV rfl 27 (.tmp 17) (.tmp 90) rfl aP5 #[.slice none 0 0, .slice none 0 0] _ #[P5a, P5b] rfl rfl (unhide PS _ _) rfl oneP5 ?_; intro cP5 q3 b3 z3)
        have ZcP5 : Hid (Below w.heap.size w cP5) := hide ((unhide ZaP5).trans (b3.mono (unhide ZaP5).size))
        have PZcP5 : Hid (PV cP5 aP5.heap.size P5a P5b [⟨1, tMint, m, 0, 0, n, n⟩] (hW tBob 0)) := hide ⟨q3, ((unhide PO2).below b3).mem⟩
        have PXcP5 := hide ((unhide PXaP5).below b3)
        have PYcP5 := hide ((unhide PYaP5).below b3)
        have GZL : Hid (w.heap.size ≤ aP5.heap.size) := hide (unhide ZaP5).size
        obtain ⟨GZ, hG⟩ : ∃ G, aP5.heap.size = G := ⟨_, rfl⟩
        rw [hG] at PZcP5 GZL
        simp only [hG]
        clear q3 b3 z3 hG PO2 PXaP5 PYaP5 ZaP5
        go_wp2_with (refine wpList_load_row rfl 27 (.tmp 11) rfl GX rfl 27 _ (0, 0) _ (unhide PXcP5).row Tryd.underlying27 rfl (unhide PS _ _) ?_)
        refine (unhide CHa (unhide H0) (unhide HLT) _ _ (unhide UW _ (unhide ZcP5)) (unhide PXcP5).mem).mono ?_
        rintro e aP6 ⟨⟨v', rfl, po⟩, b2⟩
        obtain ⟨P6a, P6b, rfl, oneP6⟩ := po.parts
        have ZaP6 : Hid (Below w.heap.size w aP6) := hide ((unhide ZcP5).trans (b2.mono (unhide ZcP5).size))
        have PO2 := hide po
        have PXaP6 := hide ((unhide PXcP5).below b2)
        have PYaP6 := hide ((unhide PYcP5).below b2)
        have PZaP6 := hide ((unhide PZcP5).below b2)
        clear b2 po CHa PXcP5 PYcP5 PZcP5 ZcP5
        go_upto_region 14 with (refine wpList_store_newV rfl 27 (.tmp 19) (.tmp 98) rfl aP6 #[.slice none 0 0, .slice none 0 0] _ #[P6a, P6b] rfl rfl (unhide PS _ _) rfl oneP6 ?_; intro cP6 q3 b3 z3)
        have ZcP6 : Hid (Below w.heap.size w cP6) := hide ((unhide ZaP6).trans (b3.mono (unhide ZaP6).size))
        have PWcP6 : Hid (PV cP6 aP6.heap.size P6a P6b [⟨1, tMint, 0, n, n, 0, 0⟩] (hW tAda h)) := hide ⟨q3, ((unhide PO2).below b3).mem⟩
        have PXcP6 := hide ((unhide PXaP6).below b3)
        have PYcP6 := hide ((unhide PYaP6).below b3)
        have PZcP6 := hide ((unhide PZaP6).below b3)
        have GWL : Hid (w.heap.size ≤ aP6.heap.size) := hide (unhide ZaP6).size
        obtain ⟨GW, hG⟩ : ∃ G, aP6.heap.size = G := ⟨_, rfl⟩
        rw [hG] at PWcP6 GWL
        simp only [hG]
        clear q3 b3 z3 hG PO2 PXaP6 PYaP6 PZaP6 ZaP6
        go_wp2_with (refine wpList_load_row_gd rfl 27 (.tmp 14) rfl GY rfl 27 _ (0, 0) _ (unhide PYcP6).row Tryd.underlying27 rfl (unhide PS _ _) ?_)
        refine (unhide CD _ tBob _ _ _ (by decide) (by simp) (unhide PYcP6).mem).mono ?_
        rintro e x1 ⟨rfl, b2⟩
        have Zx1 : Hid (Below w.heap.size w x1) := hide ((unhide ZcP6).trans (b2.mono (unhide ZcP6).size))
        have PXx1 := hide ((unhide PXcP6).below b2)
        have PZx1 := hide ((unhide PZcP6).below b2)
        have PWx1 := hide ((unhide PWcP6).below b2)
        clear b2
        obtain ⟨d, hd⟩ : ∃ d, h - n = d := ⟨_, rfl⟩
        rw [hd] at PXx1
        have hwr : IntKind.u64.wrap ((h : Int) - (n : Int)) = (d : Int) := by
          have := unhide HLT
          have := (unhide HH).1
          rw [show (h : Int) - (n : Int) = (d : Int) by omega]
          rw [IntKind.wrap_u64]; omega
        clear hd
        go_wp2_with (refine wpList_load_row_gd rfl 27 (.tmp 11) rfl GX rfl 27 _ (0, 0) _ (unhide PXx1).row Tryd.underlying27 rfl (unhide PS _ _) ?_)
        refine (unhide CD _ tAda _ _ _ (by decide) (by simp) (unhide PXx1).mem).mono ?_
        rintro e x2 ⟨rfl, b2⟩
        have Zx2 : Hid (Below w.heap.size w x2) := hide ((unhide Zx1).trans (b2.mono (unhide Zx1).size))
        have PZx2 := hide ((unhide PZx1).below b2)
        have PWx2 := hide ((unhide PWx1).below b2)
        clear b2
        go_wp2_with (refine wpList_load_row_gd rfl 27 (.tmp 17) rfl GZ rfl 27 _ (0, 0) _ (unhide PZx2).row Tryd.underlying27 rfl (unhide PS _ _) ?_)
        refine (unhide CD _ tBob _ _ _ (by decide) (by simp) (unhide PZx2).mem).mono ?_
        rintro e x3 ⟨rfl, b2⟩
        have Zx3 : Hid (Below w.heap.size w x3) := hide ((unhide Zx2).trans (b2.mono (unhide Zx2).size))
        have PWx3 := hide ((unhide PWx2).below b2)
        clear b2
        go_wp2_with (refine wpList_load_row_gd rfl 27 (.tmp 19) rfl GW rfl 27 _ (0, 0) _ (unhide PWx3).row Tryd.underlying27 rfl (unhide PS _ _) ?_)
        refine (unhide CD _ tAda _ _ _ (by decide) (by simp) (unhide PWx3).mem).mono ?_
        rintro e x4 ⟨rfl, b2⟩
        have Zx4 : Hid (Below w.heap.size w x4) := hide ((unhide Zx3).trans (b2.mono (unhide Zx3).size))
        clear b2
        go_wp2_with fail
        go_ret
        exact ⟨rfl, unhide Zx4⟩
      · have d2 : (m : Int) < (n : Int) := by omega
        rw [if_neg hc, if_neg hc] at PYcP4
        simp only [if_neg hc]
        clear hc
        go_wp2_with (first
          | (refine wpList_load_row_gd rfl 27 (.tmp 14) rfl GY rfl 27 _ (0, 0) _ (unhide PYcP4).row Tryd.underlying27 rfl (unhide PS _ _) ?_)
          | (refine wpList_load_row_gd rfl 27 (.tmp 9) rfl G9 rfl 27 _ (0, 0) _ (unhide PBcP4).row Tryd.underlying27 rfl (unhide PS _ _) ?_))
        refine (unhide CM _ _ _ _ _ _ (unhide PYcP4).mem (unhide PBcP4).mem).mono ?_
        rintro e wz ⟨rfl, bz⟩
        have FZ := hide ((unhide ZcP4).trans (bz.mono (unhide ZcP4).size))
        clear bz
        go_wp2_with fail
        go_ret
        exact ⟨rfl, unhide FZ⟩
end Go.Proofs.YtjfnaedcdmmigaaDoor

namespace Go.Proofs.YtjfnaedcdmmigaaDoor
open Go.ChangeShapes Go.WideShapes Go.ChangeAt Go.RowKit Go.Shelf

theorem u8Extra : U8Extra Tryd.prog Tryd.lays197_ren := ⟨by kernel_rfl, by kernel_rfl, by kernel_rfl, by kernel_rfl, by kernel_rfl, by kernel_rfl, by kernel_rfl⟩
set_option maxRecDepth 100000 in
theorem first_data : Rows.laid_unicode_utf8_first = Lib.firstData := by kernel_rfl
theorem accept_data : (Rows.laid_unicode_utf8_acceptRanges : DataW Unit) = Lib.acceptData := by kernel_rfl
theorem utabs_of {W : World} {laid : List (String × DataW Unit)} (h : laidMet Tryd.prog laid W) (h1 : ("unicode/utf8.first", Rows.laid_unicode_utf8_first) ∈ laid) (h2 : ("unicode/utf8.acceptRanges", Rows.laid_unicode_utf8_acceptRanges) ∈ laid) : UTabs W := by
  have r1 := Lib.laidMet.reads h h1
  have r2 := Lib.laidMet.reads h h2
  rw [first_data] at r1
  rw [accept_data] at r2
  exact utf8Tabs_of_reads { Tryd.lays197 with } u8Extra r1 r2
/-- A variable's cells turned. -/
def layCellsN (cs : Array Value) : Obj → Obj
  | .cells _ t frozen => .cells cs t frozen
  | o => o
/-- A world for the witness: the settled one, the two tables holding what their initialisers lay. -/
noncomputable def nameWorldU (os : Os) : World :=
  { World.holding Tryd.prog os ⟨#[], #[], []⟩ with heap := ((World.holding Tryd.prog os ⟨#[], #[], []⟩).heap.modify 0 (layCellsN (Lib.firstTab.map fun z => Value.int .u8 z).toArray)).modify 1 (layCellsN ((List.range 16).flatMap fun i => [Value.int .u8 (Lib.accLo i), Value.int .u8 (Lib.accHi i)]).toArray) }
end Go.Proofs.YtjfnaedcdmmigaaDoor
