/-
  THE DOCUMENT's Climb OF LAYER 6 AND Claim OF LAYER 10 WITH ITS LOG.
-/
/-
  append OF A TEXT TO A SLICE OF BYTES OF ONE'S OWN, AND WHERE ITS ROW STANDS THEN.
-/
/-
  THE DOCUMENT's Secret AND Public (layer 5) WITH ITS LOG.
-/
/-
  THE DOCUMENT's Word (layer 5) WITH ITS LOG.
-/
/-
  THE DOCUMENT's Bit (layer 5); a part of a row loaded under a guard.
-/
/-
  THE DOCUMENT's Opened (layer 5) WITH ITS LOG.
-/
/-
  THE DOCUMENT's Verify (layer 6) WITH ITS LOG.
-/
/-
  THE DOCUMENT's node AND Root OF LAYER 6 WITH ITS LOG.
-/
/-
  A LIST OF DIGESTS OF ONE'S OWN THAT GROWS BY append.
-/
import Derived.Test.YtonmccmeljeopaaDoorJ4
import Derived.Test.YtonmccmeljeopaaDoorJ5
import Derived.Test.YtonmccmeljeopaaDoorJ2
import Derived.Lib.AppendStr
import Derived.Test.YtonmccmeljeopaaDoorJ3
import Derived.Deep.DeepCutAuto
import Derived.Deep.MidRow
import Derived.Maps.AppendAt
namespace Go.Proofs.YtonmccmeljeopaaDoor
open Go Go.RowKit
set_option linter.unusedSimpArgs false
set_option linter.unusedVariables false

/-- What a node of a signer's tree notes; what a climb notes. -/
def rIn (a b : List UInt8) : List UInt8 := pInput 4 [a, b]
def kIn (leaf : List UInt8) (x : Nat) (ds : List (List UInt8)) (k : Nat) : List UInt8 := if x / 2 ^ k % 2 = 1 then rIn (ds.getD k []) (kClimb leaf x ds k) else rIn (kClimb leaf x ds k) (ds.getD k [])
theorem rR2Q_calls (a b : List UInt8) (ha : a.length = 32) (hb : b.length = 32) (L : Nat) (S : Nat → Prop) (ins : List (List UInt8)) (hin : ins.length < 1099511627776) (w : World) (hL : RLogAt w L S ins) :
    Calls Tryd.prog 37 #[.pointer (some ⟨L, 0, none⟩), .int .u8 4, .agg (bc a), .agg (bc b)] w fun e w' => e = .returned (.agg (bc (pOf 4 [a, b]))) ∧ RStep L S (rnoted (rIn a b) ins) w w' :=
  rtwoQ_calls 4 (by decide) a b ha hb L S ins hin w hL
set_option maxHeartbeats 4000000 in
set_option maxRecDepth 100000 in
theorem rclimb6Q_calls (leaf : List UInt8) (hl : leaf.length = 32) (x : Nat) (hx : x < 4294967296) (ds : List (List UInt8)) (p : Option Addr) (cap : Nat) (hlen : ds.length ≤ 60) (L : Nat) (S : Nat → Prop) (I : List (List UInt8)) (hI : I.length ≤ 1000000000000) (w : World) (hL : RLogAt w L S I) (hO : ds ≠ [] → Out p S) (hD : DL w p ds) :
    Calls Tryd.prog 23 #[.pointer (some ⟨L, 0, none⟩), .agg (bc leaf), .int .i64 (x : Int), .slice p ds.length cap] w fun e w' => e = .returned (.agg (bc (kClimb leaf x ds ds.length))) ∧ QS L S I 60 (fun J => ∀ k, k < ds.length → kIn leaf x ds k ∈ J) w w' := by
  obtain ⟨q0, q1⟩ := al2 w (.cells (bc leaf) 23) (.cells (bc (List.replicate 32 0)) 23)
  have b0 := bel2 w (.cells (bc leaf) 23) (.cells (bc (List.replicate 32 0)) 23)
  have HD := hide hD
  have HLL := hide hL
  have HOLD := hide hL.old
  have HO := hide hO
  have HIN := hide hI
  have HCL := hide (kClimb_length leaf x ds hl)
  have Hx := hide hx
  have Hlen := hide hlen
  have hwr : IntKind.u64.wrap (x : Int) = (x : Int) := by rw [IntKind.wrap_u64]; omega
  have hneg : decide ((x : Int) < 0) = false := by simp
  obtain ⟨X, hX⟩ : ∃ X, (w.alloc (.cells (bc leaf) 23)).alloc (.cells (bc (List.replicate 32 0)) 23) = X := ⟨_, rfl⟩
  rw [hX] at q0 q1 b0
  have HX := hide hX
  have B0 := hide b0
  have LX := hide (hL.below b0)
  clear hD hx hlen hX hL hO hI b0
  go_enter Tryd.func23, Tryd.ntmps23
  go_upto_region 1 with fail
  change Code.wp _ _ _ _ ((w.alloc (.cells (bc leaf) 23)).alloc (.cells (bc (List.replicate 32 0)) 23))
  rw [unhide HX]
  go_wp2
  obtain ⟨N, hN⟩ : ∃ N, w.heap.size = N := ⟨_, rfl⟩
  have HN := hide hN
  go_loopw [9, 15] (fun u i wr => ∃ (k : Nat) (S' : Nat → Prop) (I' : List (List UInt8)), k ≤ ds.length ∧ i = .int .i64 (k : Int) ∧ u = .int .u64 ((x / 2 ^ k : Nat) : Int) ∧ Hid (RLogAt wr L S' I') ∧ Hid (RBut S w wr) ∧ Hid (∀ k, S' k → S k ∨ N + 2 ≤ k) ∧ Hid (∀ s ∈ I, s ∈ I') ∧ Hid (∀ j, j < k → kIn leaf x ds j ∈ I') ∧ Hid (I'.length ≤ I.length + k) ∧ wr.heap[N + 1]? = some (.cells (bc (List.replicate 32 0)) 23 (0, 0)) ∧ wr.heap[N]? = some (.cells (bc (kClimb leaf x ds k)) 23 (0, 0))) (fun _ i _ => ds.length - (intOf i).toNat)
  case atStart =>
    subst hN
    exact ⟨0, S, I, by omega, rfl, by simp, LX, hide (RBut.of_below (unhide B0)), hide fun k h => .inl h, hide fun s h => h, hide fun j h => by omega, hide (by omega), q1, q0⟩
  case round =>
    obtain ⟨k, S1, I1, hk, rfl, rfl, HL1, HB1, hM1, hI1, hI2, hI3, q1, q2⟩ := hrel
    have N10 : Hid (¬ S1 N) := hide fun h => (unhide hM1 N h).elim (fun h => by have := unhide HOLD _ h; omega) (fun h => by omega)
    have N11 : Hid (¬ S1 (N + 1)) := hide fun h => (unhide hM1 (N + 1) h).elim (fun h => by have := unhide HOLD _ h; omega) (fun h => by omega)
    rw [hN]
    by_cases hlt : k < ds.length
    · have hd : decide (k < ds.length) = true := by simpa using hlt
      have hDk := (unhide HD).rbut (unhide HB1) (unhide HO)
      obtain ⟨b, off, rfl, hlt2, hc⟩ := hDk.2 (by intro h; rw [h] at hlt; simp at hlt)
      have hEl := hDk.len k hlt
      have hr := hc k hlt
      have hzb : b < wr.heap.size := hlt2
      have hTl := unhide HCL k
      have hT2l := unhide HCL (k + 1)
      have hT2e : kClimb leaf x ds (k + 1) = if x / 2 ^ k % 2 = 1 then pOf 4 [ds.getD k [], kClimb leaf x ds k] else pOf 4 [kClimb leaf x ds k, ds.getD k []] := rfl
      have hIne : kIn leaf x ds k = if x / 2 ^ k % 2 = 1 then rIn (ds.getD k []) (kClimb leaf x ds k) else rIn (kClimb leaf x ds k) (ds.getD k []) := rfl
      obtain ⟨IN, hIN⟩ : ∃ J, kIn leaf x ds k = J := ⟨_, rfl⟩
      rw [hIN] at hIne
      have HIn := hide hIN
      clear hIN
      obtain ⟨E, hE⟩ : ∃ E, ds.getD k [] = E := ⟨_, rfl⟩
      rw [hE] at hEl hr hT2e hIne
      obtain ⟨T1, hT1⟩ : ∃ T, kClimb leaf x ds k = T := ⟨_, rfl⟩
      rw [hT1] at hTl q2 hT2e hIne
      obtain ⟨T2, hT2⟩ : ∃ T, kClimb leaf x ds (k + 1) = T := ⟨_, rfl⟩
      rw [hT2] at hT2e hT2l
      have hst : x / 2 ^ (k + 1) = x / 2 ^ k / 2 := by rw [Nat.pow_succ, Nat.div_div_eq_div_mul]
      have hBl : x / 2 ^ k < 4294967296 := Nat.lt_of_le_of_lt (Nat.div_le_self _ _) (unhide Hx)
      obtain ⟨B, hB⟩ : ∃ B, x / 2 ^ k = B := ⟨_, rfl⟩
      rw [hB] at hT2e hst hBl hIne ⊢
      have HBB2 := hide hst
      have e6 : (B : Int).tdiv 2 = ((B / 2 : Nat) : Int) := by
        rw [Int.tdiv_eq_ediv_of_nonneg (by omega)]; rfl
      have hB2 : B / 2 < 4294967296 := by omega
      generalize B / 2 = BH at *
      have hk60 : k ≤ 60 := by have := unhide Hlen; omega
      have hiT := digInfo _ hTl
      have hi2 := digInfo _ hT2l
      have ho2 := bc_oneCell T2
      have hz2 : (bc T1).size = (bc T2).size := by rw [bc_size, bc_size, hTl, hT2l]
      have b1 : (0 : Int) ≤ k ∧ (k : Int) < ds.length := by omega
      have RE : Hid (∀ w', (∃ p : Regrown, w' = Sort.grow (redrawn wr p.d) p.os) → w'.rangeAt b (off + k * 32) (Lib.byteCells E)) := fun w' ⟨p, hp⟩ => by rw [hp]; exact rangeAt_below hr (below_regrown wr p.d p.os) hzb
      have RT : Hid (∀ w', (∃ p : Regrown, w' = Sort.grow (redrawn wr p.d) p.os) → w'.heap[N]? = some (.cells (bc T1) 23 (0, 0))) := fun w' ⟨p, hp⟩ => by rw [hp]; exact Below.at (below_regrown wr p.d p.os) (Array.getElem?_eq_some_iff.1 q2).1 q2
      have HEl := hide hEl
      have HTl := hide hTl
      have HT2 := hide hT2
      have HT2e := hide hT2e
      have HIne := hide hIne
      have Hz : Hid (N + 1 < wr.heap.size) := hide (Array.getElem?_eq_some_iff.1 q1).1
      have Q1 := hide q1
      have Q2 := hide q2
      have Hk := hide hlt
      clear q1 q2 hlt hT2 hT2e hIne hE hT1 hr hc hlt2 hB hEl hTl hT2l hDk hst hzb
      by_cases hbit : B % 2 = 1
      · have e1 := unhide HT2e
        have ei := unhide HIne
        rw [if_pos hbit] at e1 ei
        have kN := hide fun W hL => rR2Q_calls E T1 (unhide HEl) (unhide HTl) L S1 I1 (by have := unhide hI3; have := unhide HIN; omega) W hL
        rw [← ei, ← e1] at kN
        have e5 : (B : Int).tmod 2 = 1 := by rw [Int.tmod_eq_emod_of_nonneg (by omega)]; omega
        clear e1 ei HT2e HIne hbit
        go_wp2_with fail
        · refine wp_region_below_tail 6 mixed (by kernel_rfl) ?_
          simp only [List.take_succ_cons, List.take_zero, List.drop_succ_cons, List.drop_zero]
          quiet_step (fail)
          quiet_step (fail)
          quiet_step (fail)
          quiet_step (fail)
          refine wpQuiet_load_mid rfl 23 (.tmp 24) rfl b (off + k * 32) rfl (Lib.byteCells E) _ (unhide RE) Tryd.underlying23 rfl (by rw [Lib.byteCells_length, unhide HEl]; kernel_rfl) ?_
          refine wpQuiet_load_row rfl 23 (.tmp 5) rfl N rfl 23 _ (0, 0) _ (unhide RT) Tryd.underlying23 rfl hiT ?_
          refine wpQuiet_nil ?_
          intro w2 hb2
          have p1 := Below.at hb2 (unhide Hz) (unhide Q1)
          have p2 := Below.at hb2 (by have := unhide Hz; omega) (unhide Q2)
          have L2 := (unhide HL1).below hb2
          have B2' := hide ((unhide HB1).then_below hb2 (unhide HB1).size)
          have P1 := hide p1
          have P2 := hide p2
          have z2 : Hid (N + 1 < w2.heap.size) := hide (Array.getElem?_eq_some_iff.1 p1).1
          clear p1 p2 hb2
          go_wp2_with fail
          refine (unhide kN _ L2).mono ?_
          rintro e w4 ⟨rfl, S4, L4, B4, M4⟩
          have p4 := hide ((B4.block _ (unhide z2) (unhide N11)).trans (unhide P1))
          have q4 := hide ((B4.block _ (by have := unhide z2; omega) (unhide N10)).trans (unhide P2))
          have BB := hide ((unhide B2').trans B4 (fun k h => (unhide hM1 k h).imp_right (fun h2 => by omega)))
          have M5 : Hid (∀ k, S4 k → S k ∨ N + 2 ≤ k) := hide fun k h => (M4 k h).elim (unhide hM1 k) (fun h2 => .inr (by have := unhide z2; omega))
          have N4 : ¬ S4 N := fun h => (unhide M5 N h).elim (fun h => by have := unhide HOLD _ h; omega) (fun h => by omega)
          have L5 := hide (L4.kept (w' := w4.setRow N (bc T2)) (fun k hk => setRow_other _ _ _ _ (fun e => N4 (by rw [← e]; exact hk))) (by rw [setRow_size]; exact Nat.le_refl _))
          clear B4 M4 L4 N4 L2 kN
          go_wp2_with (refine wpList_store_row rfl 23 (.tmp 5) (.tmp 27) rfl N _ rfl rfl 23 _ (unhide q4) hi2 hz2 ho2 ?_)
          go_roundw
          case rel =>
            refine ⟨k + 1, S4, rnoted IN I1, by have := unhide Hk; omega, by go_num, by rw [unhide HBB2], L5, hide ?_, M5, hide fun s h => mem_rnoted_old _ _ _ (unhide hI1 s h), hide ?_, hide (by have := rnoted_le IN I1; have := unhide hI3; omega), ?_, ?_⟩
            · have r := unhide BB
              exact ⟨r.os, r.tape, r.output, by rw [setRow_size]; exact r.size, fun k hk hn => (setRow_other _ _ _ _ (by omega)).trans (r.block k hk hn)⟩
            · intro j hj
              by_cases e : j = k
              · rw [e, unhide HIn]; exact mem_rnoted _ _
              · exact mem_rnoted_old _ _ _ (unhide hI2 j (by omega))
            · rw [setRow_other _ _ _ _ (by omega)]; exact unhide p4
            · rw [unhide HT2]; exact setRow_heap _ _ _ _ _ _ (unhide q4)
          case measure => have := unhide Hk; simp [intOf]; omega
      · have e1 := unhide HT2e
        have ei := unhide HIne
        rw [if_neg hbit] at e1 ei
        have kN := hide fun W hL => rR2Q_calls T1 E (unhide HTl) (unhide HEl) L S1 I1 (by have := unhide hI3; have := unhide HIN; omega) W hL
        rw [← ei, ← e1] at kN
        have e5 : (B : Int).tmod 2 = 0 := by rw [Int.tmod_eq_emod_of_nonneg (by omega)]; omega
        clear e1 ei HT2e HIne hbit
        go_wp2_with fail
        · refine wp_region_below_tail 6 mixed (by kernel_rfl) ?_
          simp only [List.take_succ_cons, List.take_zero, List.drop_succ_cons, List.drop_zero]
          quiet_step (fail)
          refine wpQuiet_load_row rfl 23 (.tmp 5) rfl N rfl 23 _ (0, 0) _ (unhide RT) Tryd.underlying23 rfl hiT ?_
          quiet_step (fail)
          quiet_step (fail)
          quiet_step (fail)
          refine wpQuiet_load_mid rfl 23 (.tmp 32) rfl b (off + k * 32) rfl (Lib.byteCells E) _ (unhide RE) Tryd.underlying23 rfl (by rw [Lib.byteCells_length, unhide HEl]; kernel_rfl) ?_
          refine wpQuiet_nil ?_
          intro w2 hb2
          have p1 := Below.at hb2 (unhide Hz) (unhide Q1)
          have p2 := Below.at hb2 (by have := unhide Hz; omega) (unhide Q2)
          have L2 := (unhide HL1).below hb2
          have B2' := hide ((unhide HB1).then_below hb2 (unhide HB1).size)
          have P1 := hide p1
          have P2 := hide p2
          have z2 : Hid (N + 1 < w2.heap.size) := hide (Array.getElem?_eq_some_iff.1 p1).1
          clear p1 p2 hb2
          go_wp2_with fail
          refine (unhide kN _ L2).mono ?_
          rintro e w4 ⟨rfl, S4, L4, B4, M4⟩
          have p4 := hide ((B4.block _ (unhide z2) (unhide N11)).trans (unhide P1))
          have q4 := hide ((B4.block _ (by have := unhide z2; omega) (unhide N10)).trans (unhide P2))
          have BB := hide ((unhide B2').trans B4 (fun k h => (unhide hM1 k h).imp_right (fun h2 => by omega)))
          have M5 : Hid (∀ k, S4 k → S k ∨ N + 2 ≤ k) := hide fun k h => (M4 k h).elim (unhide hM1 k) (fun h2 => .inr (by have := unhide z2; omega))
          have N4 : ¬ S4 N := fun h => (unhide M5 N h).elim (fun h => by have := unhide HOLD _ h; omega) (fun h => by omega)
          have L5 := hide (L4.kept (w' := w4.setRow N (bc T2)) (fun k hk => setRow_other _ _ _ _ (fun e => N4 (by rw [← e]; exact hk))) (by rw [setRow_size]; exact Nat.le_refl _))
          clear B4 M4 L4 N4 L2 kN
          go_wp2_with (refine wpList_store_row rfl 23 (.tmp 5) (.tmp 34) rfl N _ rfl rfl 23 _ (unhide q4) hi2 hz2 ho2 ?_)
          go_roundw
          case rel =>
            refine ⟨k + 1, S4, rnoted IN I1, by have := unhide Hk; omega, by go_num, by rw [unhide HBB2], L5, hide ?_, M5, hide fun s h => mem_rnoted_old _ _ _ (unhide hI1 s h), hide ?_, hide (by have := rnoted_le IN I1; have := unhide hI3; omega), ?_, ?_⟩
            · have r := unhide BB
              exact ⟨r.os, r.tape, r.output, by rw [setRow_size]; exact r.size, fun k hk hn => (setRow_other _ _ _ _ (by omega)).trans (r.block k hk hn)⟩
            · intro j hj
              by_cases e : j = k
              · rw [e, unhide HIn]; exact mem_rnoted _ _
              · exact mem_rnoted_old _ _ _ (unhide hI2 j (by omega))
            · rw [setRow_other _ _ _ _ (by omega)]; exact unhide p4
            · rw [unhide HT2]; exact setRow_heap _ _ _ _ _ _ (unhide q4)
          case measure => have := unhide Hk; simp [intOf]; omega
    · have hd : decide (k < ds.length) = false := by simpa using hlt
      have hkl : k = ds.length := by omega
      have hM9 := unhide HCL ds.length
      have hi := digInfo _ hM9
      have hz := zeroSize _ hM9
      have ho := bc_oneCell (kClimb leaf x ds ds.length)
      rw [hkl] at q2
      have Q1 := hide q1
      have Q2 := hide q2
      clear q1 q2 hlt hM9
      go_wp2_with (first
        | refine wpList_load_row rfl 23 (.tmp 5) rfl N rfl 23 _ (0, 0) _ (unhide Q2) Tryd.underlying23 rfl hi ?_
        | refine wpList_store_row rfl 23 (.tmp 8) (.tmp 42) rfl (N + 1) _ rfl rfl 23 _ (unhide Q1) hi hz ho ?_)
      refine bodyPost_ret (results_cell_row rfl _ _ (N + 1) _ _ _ _ rfl (setRow_heap _ _ _ _ _ _ (unhide Q1)) Tryd.underlying23 rfl hi) rfl ⟨rfl, S1, I1, ?_, ?_, fun k h => (unhide hM1 k h).imp_right (fun h2 => by rw [unhide HN]; omega), unhide hI1, fun j hj => unhide hI2 j (by omega), by have := unhide hI3; have := unhide Hlen; omega⟩
      · exact (unhide HL1).kept (fun k hk => setRow_other _ _ _ _ (fun e => unhide N11 (by rw [← e]; exact hk))) (by rw [setRow_size]; exact Nat.le_refl _)
      · have r := unhide HB1
        exact ⟨r.os, r.tape, r.output, by rw [setRow_size]; exact r.size, fun k hk hn => (setRow_other _ _ _ _ (by rw [unhide HN] at hk; omega)).trans (r.block k hk hn)⟩
end Go.Proofs.YtonmccmeljeopaaDoor

namespace Go.Proofs.YtonmccmeljeopaaDoor
open Go Go.RowKit
set_option linter.unusedSimpArgs false
set_option linter.unusedVariables false

theorem run_append_text_at {P : Program} (w : World) (base : Nat) (t u ty e : TypeId) (i : TypeInfo) (ht : P.underlying t = some (.slice e)) (hu : P.underlying u = some .string) (hi : P.info? e = some i) (hz : i.zero = some (.int .u8 0))
    (hsize : i.size = 1) (hby : i.bytes = 1)
    (v : Value) (n : Nat) (xs : List Value) (hown : w.ownsRow base e 1 v n xs) (s : ByteArray)
    (h63 : n + s.size ≤ maxLen) (hbytes : n + s.size ≤ 140737488355328) (hbase : base ≤ w.heap.size) :
    ∃ v' w', (Builtin.append_ #[t, u] ty #[v, .string s]).run P w = .ok v' w' ∧ w'.ownsRow base e 1 v' (n + s.size) (xs ++ Lib.strCells s) ∧ w.grownBy w' v.ownBlock ∧ (v'.ownBlock = v.ownBlock ∨ v'.ownBlock = some w.heap.size) := by
  obtain ⟨v', w', hr, h2, h3, h4⟩ := Lib.run_append_own_string (P := P) w base t u ty e i ht hu hi hz hsize hby v n xs hown s h63 hbytes hbase
  refine ⟨v', w', hr, h2, h3, ?_⟩
  have hxl : xs.length = n := by simpa using hown.1
  rcases hown.2 with ⟨rfl, rfl⟩ | ⟨g, cap, cur, rfl, hbg, hg, hnc, hcm, hcs, htake⟩
  · by_cases hm : s.size = 0
    · rw [h4.2 ⟨rfl, hm⟩]; exact .inl rfl
    · have hr2 := run_append_nil_string (P := P) w t u ty e i (.int .u8 0) ht hu hi hz s (by omega) (by omega) (by rw [hby]; omega)
      rw [hr] at hr2
      simp only [Result.ok.injEq] at hr2
      rw [hr2.1]; exact .inr rfl
  · by_cases hroom : n + s.size ≤ cap
    · have hcs' : cur.size = cap := by simpa using hcs
      have hr2 := Lib.run_append_room_string (P := P) w t u ty e i ht hu hi hsize g n cap cur hg s hroom (by omega)
      rw [hr] at hr2
      simp only [Result.ok.injEq] at hr2
      rw [hr2.1]; exact .inl rfl
    · have holds : ∀ j u, xs[j]? = some u → w.cell? ((⟨g, 0, none⟩ : Addr).add j) = some u := hown.cells (g := g) rfl
      have hr2 := Lib.run_append_grow_string (P := P) w t u ty e i (.int .u8 0) ht hu hi hz ⟨g, 0, none⟩ n cap xs (by rw [hsize]; simpa using hxl) holds s (by omega) (by omega) (by rw [hby]; exact growslice_fits (by omega) (by omega))
      rw [hr] at hr2
      simp only [Result.ok.injEq] at hr2
      rw [hr2.1]; exact .inr rfl
/-- A row of bytes of one's own. -/
def Row (base : Nat) (l : List UInt8) (v : Value) (w : World) : Prop := w.ownsRow base 5 1 v l.length (Lib.byteCells l)
theorem wpList_append_at {ops : Array Oper} {rest : List Oper} {o : Oper} {a : Act} {Q : Exit → Act → World → Prop} {w : World} (hgd : o.guard = none) (s x : Operand)
    (ho : o.op = .call { callee := .builtin .append, args := #[s, x], argTypes := #[71, 9] })
    (base : Nat) (l : List UInt8) (v : Value) (hs : a.eval s = v) (m : List UInt8) (hb : Row base l v w) (hB : base ≤ w.heap.size)
    (hx : a.eval x = .string (str m)) (hlen : l.length + m.length ≤ 140737488355328)
    (h : ∀ v' w', Row base (l ++ m) v' w' → w.grownBy w' v.ownBlock → (v'.ownBlock = v.ownBlock ∨ v'.ownBlock = some w.heap.size) → wpList Tryd.prog ops Q rest (a.put o.dst v') w') : wpList Tryd.prog ops Q (o :: rest) a w := by
  obtain ⟨i, hi, hz, h1, h2⟩ := byteInfo
  refine wpList_plain hgd fun K hK => ?_
  obtain ⟨v', w', hr, k2, k3, k4⟩ := run_append_text_at (P := Tryd.prog) w base 71 9 o.type 5 i Tryd.underlying71 Tryd.underlying9 hi hz h1 h2 v l.length (Lib.byteCells l) hb (str m) (by rw [str_size]; unfold maxLen; omega) (by rw [str_size]; exact hlen) hB
  unfold Oper.wp execOp
  simp only [ho, resolve, invoke, builtin, Sem.run_bind, Sem.run_pure, Result.andThen_ok, List.map_toArray, List.map_cons, List.map_nil, hs, hx, hr]
  refine hK _ _ (h v' w' ?_ k3 k4)
  rw [str_size, strC] at k2
  unfold Row
  rw [List.length_append, Lib.byteCells_append]; exact k2
theorem Row.convert {w : World} {B : Nat} {l : List UInt8} {v : Value} (h : Row B l v w) : (convert 71 9 v).run Tryd.prog w = .ok (.string (str l)) w := by
  rcases h.2 with ⟨rfl, h0⟩ | ⟨g, cap, cur, rfl, hB, hg, hc, hm, hs, ht⟩
  · have : l = [] := List.eq_nil_of_length_eq_zero h0
    subst this
    exact conv_nil w
  · refine run_convert_bytes_back (P := Tryd.prog) w 71 9 5 ⟨g, 0, none⟩ cap l Tryd.underlying71 Tryd.underlying5 Tryd.underlying9 (fun j hj => ?_)
    have := World.ownsRow.cells h (g := g) rfl j (.int .u8 ((l.getD j 0).toNat : Int)) (by simp [Lib.byteCells, hj])
    rw [this]; simp [hj]
end Go.Proofs.YtonmccmeljeopaaDoor

namespace Go.Proofs.YtonmccmeljeopaaDoor
open Go Go.RowKit
set_option linter.unusedSimpArgs false
set_option linter.unusedVariables false

theorem pBig4_mod (n m : Nat) (h : n % 4294967296 = m) : pBig n 4 = pBig m 4 := by
  subst h
  unfold pBig
  refine List.map_congr_left fun i hi => ?_
  have hi4 : i < 4 := List.mem_range.1 hi
  apply UInt8.toNat_inj.1
  rw [UInt8.toNat_ofNat', UInt8.toNat_ofNat']
  match i, hi4 with
  | 0, _ => simp; omega
  | 1, _ => simp; omega
  | 2, _ => simp; omega
  | 3, _ => simp
/-- What Secret and Public note. -/
def sIn (seed : List UInt8) (index i b : Nat) : List UInt8 := pInput 1 [seed, pBig index 4, pBig i 1, pBig b 1]
def uIn (s : List UInt8) : List UInt8 := pInput 2 [s]
set_option maxHeartbeats 2000000 in
set_option maxRecDepth 100000 in
theorem rpublicQ_calls (s : List UInt8) (hs : s.length = 32) (L : Nat) (S : Nat → Prop) (ins : List (List UInt8)) (hin : ins.length < 1099511627776) (w : World) (hL : RLogAt w L S ins) :
    Calls Tryd.prog 34 #[.pointer (some ⟨L, 0, none⟩), .agg (bc s)] w fun e w' => e = .returned (.agg (bc (pPublic s))) ∧ RStep L S (rnoted (uIn s) ins) w w' := by
  have co := fun g w hs hl => rofQ_calls 2 (by decide) [s] (by simp; omega) (by simp) (some ⟨g, 0, none⟩) 1 L S ins hin w hs hl
  have hi0 := digInfo s hs
  have hi1 := digInfo (pPublic s) (pPublic_length s)
  have hz1 := zeroSize (pPublic s) (pPublic_length s)
  have ho1 := bc_oneCell (pPublic s)
  have cd := fun w => rbytes_calls s hs w
  have e2 : pOf 2 [s] = pPublic s := rfl
  have e3 : pInput 2 [s] = uIn s := rfl
  rw [e2, e3] at co
  generalize uIn s = IN at *
  generalize pPublic s = D at *
  have CO := hide co
  have CD := hide cd
  have HL := hide hL
  have HOLD := hide hL.old
  clear co cd e2 e3 hL
  go_enter Tryd.func34, Tryd.ntmps34
  go_wp2_with (refine wpList_load_row rfl 23 (.tmp 3) rfl w.heap.size rfl 23 _ (0, 0) _ ((Below.heap_alloc _ _ _ (by simp)).trans (al1 w (.cells (bc s) 23))) Tryd.underlying23 rfl hi0 ?_)
  have hb0 : Below w.heap.size w ((w.alloc (.cells (bc s) 23)).alloc (.cells (bc (List.replicate 32 0)) 23)) := ((Below.refl _ w).alloc (Nat.le_refl _) _).alloc (by simp) _
  have q0 : ((w.alloc (.cells (bc s) 23)).alloc (.cells (bc (List.replicate 32 0)) 23)).heap[w.heap.size + 1]? = some (.cells (bc (List.replicate 32 0)) 23 (0, 0)) := by
    have := al1 (w.alloc (.cells (bc s) 23)) (.cells (bc (List.replicate 32 0)) 23); rwa [World.size_alloc] at this
  refine (unhide CD _).mono ?_
  rintro e w1 ⟨rfl, b1⟩
  have q1 := Below.at b1 (by simp) q0
  have hb1 : Below w.heap.size w w1 := hb0.trans (b1.mono (by simp; omega))
  have z1 : w.heap.size + 1 < w1.heap.size := by have := b1.size; simp at this; omega
  clear hb0 b1 q0
  go_wp2_with fail
  have hb2 : Below w.heap.size w (w1.alloc (.cells #[.string (str s)] 9)) := hb1.alloc (by omega) _
  have HB2 := hide hb2
  refine (unhide CO _ _ (strsAt_one w1 s _) ((unhide HL).below hb2)).mono ?_
  rintro e w2 ⟨rfl, hst⟩
  have HST := hide hst
  obtain ⟨S', k1, k2, k3⟩ := hst
  have q2 := (k2.block (w.heap.size + 1) (by rw [World.size_alloc]; omega) (fun h => by have := unhide HOLD _ h; omega)).trans ((Below.heap_alloc w1 (.cells #[.string (str s)] 9) _ z1).trans q1)
  have Z1 := hide z1
  clear q1 hb1 hb2 k1 k2 k3
  go_wp2_with (refine wpList_store_row rfl 23 (.tmp 4) (.tmp 9) rfl (w.heap.size + 1) _ rfl rfl 23 _ q2 hi1 hz1 ho1 ?_)
  exact bodyPost_ret (results_cell_row rfl _ _ (w.heap.size + 1) _ _ _ _ rfl (setRow_heap _ _ _ _ _ _ q2) Tryd.underlying23 rfl hi1) rfl ⟨rfl, setRow_step (unhide HB2) (unhide HST) (unhide HOLD) (w.heap.size + 1) (by omega) (by rw [World.size_alloc]; have := unhide Z1; omega) _⟩
set_option maxHeartbeats 2000000 in
set_option maxRecDepth 100000 in
theorem rsecretQ_calls (seed : List UInt8) (hs : seed.length = 32) (x : Int) (index i b : Nat) (hx : x % 4294967296 = (index : Int)) (hi : i < 256) (hb : b < 256) (L : Nat) (S : Nat → Prop) (ins : List (List UInt8)) (hin : ins.length < 1099511627776) (w : World) (hL : RLogAt w L S ins) :
    Calls Tryd.prog 35 #[.pointer (some ⟨L, 0, none⟩), .agg (bc seed), .int .i64 x, .int .i64 (i : Int), .int .i64 (b : Int)] w fun e w' => e = .returned (.agg (bc (pSecret seed index i b))) ∧ RStep L S (rnoted (sIn seed index i b) ins) w w' := by
  obtain ⟨n, hn⟩ : ∃ n : Nat, x % 18446744073709551616 = (n : Int) := ⟨(x % 18446744073709551616).toNat, by omega⟩
  have hw : IntKind.u64.wrap x = (n : Int) := by rw [IntKind.wrap_u64]; exact hn
  have hwi : IntKind.u64.wrap (i : Int) = (i : Int) := by rw [IntKind.wrap_u64]; omega
  have hwb : IntKind.u64.wrap (b : Int) = (b : Int) := by rw [IntKind.wrap_u64]; omega
  have hni : pBig n 4 = pBig index 4 := pBig4_mod n index (by omega)
  have co := fun g w hs hl => rofQ_calls 1 (by decide) [seed, pBig index 4, pBig i 1, pBig b 1] (by simp [pBig_length]; omega) (by simp) (some ⟨g, 0, none⟩) 4 L S ins hin w hs hl
  have hi0 := digInfo seed hs
  have hi1 := digInfo (pSecret seed index i b) (pSecret_length _ _ _ _)
  have hz1 := zeroSize (pSecret seed index i b) (pSecret_length _ _ _ _)
  have ho1 := bc_oneCell (pSecret seed index i b)
  have cd := fun w => rbytes_calls seed hs w
  have c1 := fun w => rbig_calls n 4 (by omega) (by decide) (by decide) w
  have c2 := fun w => rbig_calls i 1 (by omega) (by decide) (by decide) w
  have c3 := fun w => rbig_calls b 1 (by omega) (by decide) (by decide) w
  rw [hni] at c1
  have e2 : pOf 1 [seed, pBig index 4, pBig i 1, pBig b 1] = pSecret seed index i b := rfl
  have e3 : pInput 1 [seed, pBig index 4, pBig i 1, pBig b 1] = sIn seed index i b := rfl
  rw [e2, e3] at co
  generalize sIn seed index i b = IN at *
  generalize pSecret seed index i b = D at *
  generalize pBig index 4 = p1 at *
  generalize pBig i 1 = p2 at *
  generalize pBig b 1 = p3 at *
  have CO := hide co
  have CD := hide cd
  have C1 := hide c1
  have C2 := hide c2
  have C3 := hide c3
  have HL := hide hL
  have HOLD := hide hL.old
  clear co cd c1 c2 c3 e2 e3 hL hni hn hx
  go_enter Tryd.func35, Tryd.ntmps35
  go_wp2_with (refine wpList_load_row rfl 23 (.tmp 6) rfl w.heap.size rfl 23 _ (0, 0) _ ((Below.heap_alloc _ _ _ (by simp)).trans (al1 w (.cells (bc seed) 23))) Tryd.underlying23 rfl hi0 ?_)
  have hb0 : Below w.heap.size w ((w.alloc (.cells (bc seed) 23)).alloc (.cells (bc (List.replicate 32 0)) 23)) := ((Below.refl _ w).alloc (Nat.le_refl _) _).alloc (by simp) _
  have q0 : ((w.alloc (.cells (bc seed) 23)).alloc (.cells (bc (List.replicate 32 0)) 23)).heap[w.heap.size + 1]? = some (.cells (bc (List.replicate 32 0)) 23 (0, 0)) := by
    have := al1 (w.alloc (.cells (bc seed) 23)) (.cells (bc (List.replicate 32 0)) 23); rwa [World.size_alloc] at this
  refine (unhide CD _).mono ?_
  rintro e w1 ⟨rfl, b1⟩
  have q1 := Below.at b1 (by simp) q0
  have hb1 : Below w.heap.size w w1 := hb0.trans (b1.mono (by simp; omega))
  have z1 : w.heap.size + 1 < w1.heap.size := by have := b1.size; simp at this; omega
  clear hb0 b1 q0
  go_wp2_with fail
  refine (unhide C1 _).mono ?_
  rintro e w2 ⟨rfl, b2⟩
  have q2 := Below.at b2 z1 q1
  have hb2 : Below w.heap.size w w2 := hb1.trans (b2.mono (by omega))
  have z2 : w.heap.size + 1 < w2.heap.size := Nat.lt_of_lt_of_le z1 b2.size
  clear hb1 b2 q1 z1
  go_wp2_with fail
  refine (unhide C2 _).mono ?_
  rintro e w3 ⟨rfl, b3⟩
  have q3 := Below.at b3 z2 q2
  have hb3 : Below w.heap.size w w3 := hb2.trans (b3.mono (by omega))
  have z3 : w.heap.size + 1 < w3.heap.size := Nat.lt_of_lt_of_le z2 b3.size
  clear hb2 b3 q2 z2
  go_wp2_with fail
  refine (unhide C3 _).mono ?_
  rintro e w4 ⟨rfl, b4⟩
  have q4 := Below.at b4 z3 q3
  have hb4 : Below w.heap.size w w4 := hb3.trans (b4.mono (by omega))
  have z4 : w.heap.size + 1 < w4.heap.size := Nat.lt_of_lt_of_le z3 b4.size
  clear hb3 b4 q3 z3
  go_wp2_with fail
  have hb5 : Below w.heap.size w (w4.alloc (.cells #[.string (str seed), .string (str p1), .string (str p2), .string (str p3)] 9)) := hb4.alloc (by omega) _
  have HB5 := hide hb5
  refine (unhide CO _ _ (strsAt_four w4 seed p1 p2 p3 _) ((unhide HL).below hb5)).mono ?_
  rintro e w5 ⟨rfl, hst⟩
  have HST := hide hst
  obtain ⟨S', k1, k2, k3⟩ := hst
  have q5 := (k2.block (w.heap.size + 1) (by rw [World.size_alloc]; omega) (fun h => by have := unhide HOLD _ h; omega)).trans ((Below.heap_alloc w4 (.cells #[.string (str seed), .string (str p1), .string (str p2), .string (str p3)] 9) _ z4).trans q4)
  have Z4 := hide z4
  clear q4 hb4 hb5 k1 k2 k3
  go_wp2_with (refine wpList_store_row rfl 23 (.tmp 10) (.tmp 24) rfl (w.heap.size + 1) _ rfl rfl 23 _ q5 hi1 hz1 ho1 ?_)
  exact bodyPost_ret (results_cell_row rfl _ _ (w.heap.size + 1) _ _ _ _ rfl (setRow_heap _ _ _ _ _ _ q5) Tryd.underlying23 rfl hi1) rfl ⟨rfl, setRow_step (unhide HB5) (unhide HST) (unhide HOLD) (w.heap.size + 1) (by omega) (by rw [World.size_alloc]; have := unhide Z4; omega) _⟩
end Go.Proofs.YtonmccmeljeopaaDoor

namespace Go.Proofs.YtonmccmeljeopaaDoor
open Go Go.RowKit
set_option linter.unusedSimpArgs false
set_option linter.unusedVariables false

theorem Row.kept {B : Nat} {l : List UInt8} {v : Value} {w w' : World} (h : Row B l v w) (hk : ∀ k, v.ownBlock = some k → w'.heap[k]? = w.heap[k]?) : Row B l v w' := owns_at h hk
theorem Row.lt {B : Nat} {l : List UInt8} {v : Value} {w : World} (h : Row B l v w) : ∀ k, v.ownBlock = some k → B ≤ k ∧ k < w.heap.size := World.ownsRow.lt h
theorem Row.below {B : Nat} {l : List UInt8} {v : Value} {w w' : World} (h : Row B l v w) (hb : Below w.heap.size w w') : Row B l v w' := h.kept fun k e => hb.block k (h.lt k e).2
theorem Row.step {B : Nat} {l : List UInt8} {v : Value} {w w' : World} {L : Nat} {S : Nat → Prop} {ins : List (List UInt8)} (h : Row B l v w) (hs : RStep L S ins w w') (ho : ∀ k, v.ownBlock = some k → ¬ S k) : Row B l v w' := by
  obtain ⟨_, _, k2, _⟩ := hs
  exact h.kept fun k e => k2.block k (h.lt k e).2 (ho k e)
/-- The inputs of a key's secrets and publics. -/
def WNoted (seed : List UInt8) (index m : Nat) (J : List (List UInt8)) : Prop := ∀ j, j < m → sIn seed index (j / 2) (j % 2) ∈ J ∧ uIn (pSecret seed index (j / 2) (j % 2)) ∈ J
def wIn (l : List UInt8) : List UInt8 := pInput 3 [l]
set_option maxHeartbeats 4000000 in
set_option maxRecDepth 100000 in
theorem rwordQ_calls (seed : List UInt8) (hs : seed.length = 32) (x : Int) (index : Nat) (hx : x % 4294967296 = (index : Int)) (L : Nat) (S : Nat → Prop) (I : List (List UInt8)) (hI : I.length ≤ 1000000) (w : World) (hL : RLogAt w L S I) :
    Calls Tryd.prog 17 #[.pointer (some ⟨L, 0, none⟩), .agg (bc seed), .int .i64 x] w fun e w' => e = .returned (.agg (bc (pWord seed index))) ∧ QS L S I 129 (fun J => WNoted seed index 64 J ∧ wIn (pubs seed index 64) ∈ J) w w' := by
  have hW : (pWord seed index).length = 32 := pOf_length _ _
  have hi1 := digInfo (pWord seed index) hW
  have hz1 := zeroSize (pWord seed index) hW
  have ho1 := bc_oneCell (pWord seed index)
  have hi0 := digInfo seed hs
  have CO := hide (fun S ins hin g w hs hl => rofQ_calls 3 (by decide) [pubs seed index 64] (by simp [pubs_length]) (by simp) (some ⟨g, 0, none⟩) 1 L S ins hin w hs hl)
  have e1 : pOf 3 [pubs seed index 64] = pWord seed index := rfl
  have e3 : pInput 3 [pubs seed index 64] = wIn (pubs seed index 64) := rfl
  rw [e1, e3] at CO
  obtain ⟨WI, hWI⟩ : ∃ y, wIn (pubs seed index 64) = y := ⟨_, rfl⟩
  rw [hWI] at CO ⊢
  clear hWI
  have CS := hide fun i b hi hb S ins hin w hl => rsecretQ_calls seed hs x index i b hx hi hb L S ins hin w hl
  have CP := hide fun i b S ins hin w hl => rpublicQ_calls (pSecret seed index i b) (pSecret_length _ _ _ _) L S ins hin w hl
  have CD := hide fun i b w => rbytes_calls (pPublic (pSecret seed index i b)) (pPublic_length _) w
  have HSucc := hide (pubs_succ seed index)
  have HLen := hide (pubs_length seed index)
  generalize pWord seed index = D at *
  obtain ⟨q0, q1⟩ := al2 w (.cells (bc seed) 23) (.cells (bc (List.replicate 32 0)) 23)
  have b0 := bel2 w (.cells (bc seed) 23) (.cells (bc (List.replicate 32 0)) 23)
  have sX : ((w.alloc (.cells (bc seed) 23)).alloc (.cells (bc (List.replicate 32 0)) 23)).heap.size = w.heap.size + 1 + 1 := by simp
  obtain ⟨X, hX⟩ : ∃ X, (w.alloc (.cells (bc seed) 23)).alloc (.cells (bc (List.replicate 32 0)) 23) = X := ⟨_, rfl⟩
  rw [hX] at q0 q1 b0 sX
  have HX := hide hX
  have SX := hide sX
  have LX := hide (hL.below b0)
  have HOLD := hide hL.old
  have HN0 : Hid (¬ S w.heap.size) := hide fun h => by have := hL.old _ h; omega
  have HN1 : Hid (¬ S (w.heap.size + 1)) := hide fun h => by have := hL.old _ h; omega
  have B0 := hide b0
  have Q0 := hide q0
  have Q1 := hide q1
  have HII := hide hI
  clear e1 e3 hX sX b0 q0 q1 hL hI hs hx
  go_enter Tryd.func17, Tryd.ntmps17
  go_upto_region 2 with fail
  change Code.wp _ _ _ _ ((w.alloc (.cells (bc seed) 23)).alloc (.cells (bc (List.replicate 32 0)) 23))
  rw [unhide HX]
  go_wp2
  go_loopw [7, 8, 9] (fun v i _ wr => ∃ (k : Nat) (S' : Nat → Prop) (I' : List (List UInt8)), k ≤ 32 ∧ i = .int .i64 (k : Int) ∧ Hid (Row X.heap.size (pubs seed index (2 * k)) v wr) ∧ Hid (LS X L S I (4 * k) (WNoted seed index (2 * k)) v.ownBlock wr S' I')) (fun _ i _ _ => 32 - (intOf i).toNat)
  case atStart => exact ⟨0, S, I, by omega, rfl, hide (World.ownsRow_nil _ _ _ _), hide (LS.start (unhide LX) (fun j hj => absurd hj (Nat.not_lt_zero _)))⟩
  case round =>
    obtain ⟨k, S1, I1, hk, rfl, hrow, hls⟩ := hrel
    by_cases hlt : k < 32
    · have hd1 : decide ((k : Int) < 32) = true := by simp; omega
      have HK := hide hlt
      clear hlt
      go_wp2
      go_loopw [7, 9] (fun v b wq => ∃ (j : Nat) (S' : Nat → Prop) (I' : List (List UInt8)), j ≤ 2 ∧ b = .int .i64 (j : Int) ∧ Hid (Row X.heap.size (pubs seed index (2 * k + j)) v wq) ∧ Hid (LS X L S I (2 * (2 * k + j)) (WNoted seed index (2 * k + j)) v.ownBlock wq S' I')) (fun _ b _ => 2 - (intOf b).toNat)
      case atStart => exact ⟨0, S1, I1, by omega, rfl, hrow, hide ((unhide hls).mono (by omega) (fun h => h))⟩
      case round =>
        obtain ⟨j, S2, I2, hj, rfl, hrow2, hls2⟩ := hrel
        by_cases hlt2 : j < 2
        · have hd2 : decide ((j : Int) < 2) = true := by simp; omega
          have HJ := hide hlt2
          have qs := (unhide hls2).at (unhide Q0) (unhide HN0)
          have hn2 : Hid (I2.length < 1099511627000) := hide (by have := (unhide hls2).2.2.2.2.2.2; have := unhide HII; have := unhide HK; omega)
          have cs := hide fun W hl => unhide CS k j (by have := unhide HK; omega) (by omega) S2 I2 (by have := unhide hn2; omega) W hl
          have cp := hide fun S3 W hl => unhide CP k j S3 (rnoted (sIn seed index k j) I2) (by have := rnoted_le (sIn seed index k j) I2; have := unhide hn2; omega) W hl
          have cd := hide fun W => unhide CD k j W
          have hdiv : Hid ((2 * k + j) / 2 = k ∧ (2 * k + j) % 2 = j) := hide (by omega)
          have hsucc : Hid (pubs seed index (2 * k + (j + 1)) = pubs seed index (2 * k + j) ++ pPublic (pSecret seed index k j)) := hide (by
            rw [show 2 * k + (j + 1) = 2 * k + j + 1 by omega, unhide HSucc]; unfold pubAt; rw [(unhide hdiv).1, (unhide hdiv).2])
          have hlen := hide (unhide HLen (2 * k + j))
          have hnew : Hid (∀ J J', WNoted seed index (2 * k + j) J → (∀ s ∈ J, s ∈ J') → sIn seed index k j ∈ J' → uIn (pSecret seed index k j) ∈ J' → WNoted seed index (2 * k + (j + 1)) J') := hide fun J J' h hm h1 h2 m hm2 => by
            by_cases e : m = 2 * k + j
            · rw [e, (unhide hdiv).1, (unhide hdiv).2]; exact ⟨h1, h2⟩
            · have := h m (by omega)
              exact ⟨hm _ this.1, hm _ this.2⟩
          have hPl : (pPublic (pSecret seed index k j)).length = 32 := pPublic_length _
          have HPl := hide hPl
          obtain ⟨SI, hSI⟩ : ∃ y, sIn seed index k j = y := ⟨_, rfl⟩
          obtain ⟨UI, hUI⟩ : ∃ y, uIn (pSecret seed index k j) = y := ⟨_, rfl⟩
          rw [hSI] at cs cp hnew
          rw [hUI] at cp hnew
          generalize pPublic (pSecret seed index k j) = PD at *
          generalize pSecret seed index k j = SD at *
          clear hlt2 hSI hUI hPl
          go_wp2_with (refine wpList_load_row rfl 23 (.tmp 4) rfl w.heap.size rfl 23 _ (0, 0) _ qs Tryd.underlying23 rfl hi0 ?_)
          refine (unhide cs _ (unhide hls2).1).mono ?_
          rintro e w1 ⟨rfl, st1⟩
          have r1 := hide ((unhide hrow2).step st1 (unhide hls2).2.2.2.1)
          obtain ⟨S3, l3⟩ := (unhide hls2).step (P' := fun J => WNoted seed index (2 * k + j) I2 ∧ (∀ s ∈ I2, s ∈ J) ∧ SI ∈ J) st1 (fun k e => ((unhide hrow2).lt k e).2) (fun h => ⟨h, fun s hs => mem_rnoted_old _ _ _ hs, mem_rnoted _ _⟩)
          have L3 := hide l3
          clear st1 l3 qs
          go_wp2_with fail
          refine (unhide cp S3 _ (unhide L3).1).mono ?_
          rintro e w2 ⟨rfl, st2⟩
          have r2 := hide ((unhide r1).step st2 (unhide L3).2.2.2.1)
          obtain ⟨S4, l4⟩ := (unhide L3).step (P' := WNoted seed index (2 * k + (j + 1))) st2 (fun k e => ((unhide r1).lt k e).2) (fun h => unhide hnew I2 _ h.1 (fun s hs => mem_rnoted_old _ _ _ (h.2.1 s hs)) (mem_rnoted_old _ _ _ h.2.2) (mem_rnoted _ _))
          have L4 := hide l4
          clear st2 l4
          go_wp2_with fail
          refine (unhide cd _).mono ?_
          rintro e w3 ⟨rfl, b3⟩
          have r3 := hide ((unhide r2).below b3)
          have L5 := hide ((unhide L4).below b3)
          clear b3
          go_wp2_with (at_builtin; (refine wpList_append_at rfl (.tmp 18) (.tmp 27) rfl X.heap.size (pubs seed index (2 * k + j)) u7 rfl PD (unhide r3) (unhide L5).2.1.size rfl (by have := unhide hlen; have := unhide HPl; have := unhide HK; have := unhide HJ; omega) ?_); intro v' w4 r4 g4 a4)
          have L6 := hide ((unhide L5).grow (v := u7) (v' := v') (fun k e => ((unhide r3).lt k e).1) g4 a4)
          have R4 := hide r4
          clear r4 g4 a4
          go_roundw
          case rel => exact ⟨j + 1, S4, _, by have := unhide HJ; omega, by go_num, by rw [unhide hsucc]; exact R4, hide ((unhide L6).mono (by omega) (fun h => h))⟩
          case measure => have := unhide HJ; simp [intOf]; omega
        · have hd2 : decide ((j : Int) < 2) = false := by simp; omega
          have hj2 : j = 2 := by omega
          subst hj2
          clear hlt2
          go_wp2
          go_roundw
          case rel => exact ⟨k + 1, S2, I2, by have := unhide HK; omega, by go_num, by rw [show 2 * (k + 1) = 2 * k + 2 by omega]; exact hrow2, hide (by rw [show 2 * (k + 1) = 2 * k + 2 by omega]; exact (unhide hls2).mono (by omega) (fun h => h))⟩
          case measure => have := unhide HK; simp [intOf]; omega
    · have hd1 : decide ((k : Int) < 32) = false := by simp; omega
      have hk32 : k = 32 := by omega
      subst hk32
      have hcv := (unhide hrow).convert
      have q1 := (unhide hls).at (unhide Q1) (unhide HN1)
      have z1 := (Array.getElem?_eq_some_iff.1 q1).1
      have hn2 : I1.length < 1099511627000 := by have := (unhide hls).2.2.2.2.2.2; have := unhide HII; omega
      have co := hide fun g W hs hl => unhide CO S1 I1 (by omega) g W hs hl
      have L1 := hide ((unhide hls).below ((Below.refl _ wr).alloc (Nat.le_refl _) (.cells #[.string (str (pubs seed index 64))] 9)))
      have hno : Hid (∀ J, WNoted seed index (2 * 32) J → WNoted seed index 64 J) := hide fun J h => h
      generalize pubs seed index 64 = LL at *
      have hcv2 : (convert 71 9 u7).run Tryd.prog wr = .ok (.string (str LL)) wr := hcv
      clear hn2 hcv hrow hlt
      go_wp2_with fail
      refine (unhide co _ _ (strsAt_one wr LL _) (unhide L1).1).mono ?_
      rintro e w3 ⟨rfl, st3⟩
      have q3 : w3.heap[w.heap.size + 1]? = some (.cells (bc (List.replicate 32 0)) 23 (0, 0)) := by
        obtain ⟨_, _, k2, _⟩ := st3
        exact (k2.block (w.heap.size + 1) (by rw [World.size_alloc]; omega) (fun h => ((unhide L1).2.2.1 _ h).elim (unhide HN1) (fun h2 => by have := unhide SX; omega))).trans ((Below.heap_alloc wr (.cells #[.string (str LL)] 9) _ z1).trans q1)
      obtain ⟨S5, l5⟩ := (LS.forget (unhide L1)).step (P' := fun J => WNoted seed index 64 J ∧ WI ∈ J) st3 (fun k e => by cases e) (fun h => ⟨fun j hj => ⟨mem_rnoted_old _ _ _ (h j hj).1, mem_rnoted_old _ _ _ (h j hj).2⟩, mem_rnoted _ _⟩)
      have L5 := hide l5
      clear st3 l5 q1 hcv2
      go_wp2_with (refine wpList_store_row rfl 23 (.tmp 6) (.tmp 33) rfl (w.heap.size + 1) _ rfl rfl 23 _ q3 hi1 hz1 ho1 ?_)
      exact bodyPost_ret (results_cell_row rfl _ _ (w.heap.size + 1) _ _ _ _ rfl (setRow_heap _ _ _ _ _ _ q3) Tryd.underlying23 rfl hi1) rfl ⟨rfl, ((unhide L5).mono (by omega) (fun h => h)).close_row (unhide B0) (unhide HOLD) (w.heap.size + 1) (by omega) (by have := unhide SX; omega) _⟩
end Go.Proofs.YtonmccmeljeopaaDoor

namespace Go.Proofs.YtonmccmeljeopaaDoor
open Go Go.RowKit
set_option linter.unusedSimpArgs false
set_option linter.unusedVariables false

theorem wpList_load_mid_gv {P : Program} {ops : Array Oper} {rest : List Oper} {o : Oper} {a : Act} {w : World} {Q : Exit → Act → World → Prop} (hw : Region.wanted o (yielded ops a.tmps) = true) (ty : TypeId) (x : Operand) (ho : o.op = .load ty x)
    (b off : Nat) (hx : a.eval x = .pointer (some ⟨b, off, none⟩)) (cs : List Value) (d : TypeDesc) (hc : w.rangeAt b off cs)
    (hu : P.underlying ty = some d) (hd : d.isRow = true) (hi : (P.info? ty).map (·.size) = some cs.length)
    (h : wpList P ops Q rest (a.put o.dst (.agg cs.toArray)) w) : wpList P ops Q (o :: rest) a w :=
  wpList_step fun K hK => by
    rw [if_pos hw]
    exact wp_load_mid ty x ho b off hx cs d hc hu hd hi (hK _ _ h)
set_option maxHeartbeats 2000000 in
set_option maxRecDepth 100000 in
theorem rbit_calls (d : List UInt8) (hd : d.length = 32) (i : Nat) (hi : i < 256) (w : World) :
    Calls Tryd.prog 40 #[.agg (bc d), .int .i64 (i : Int)] w fun e w' => e = .returned (.int .i64 ((pBit d i : Nat) : Int)) ∧ Below w.heap.size w w' := by
  have hq : i / 8 < 32 := by omega
  have hr : i % 8 < 8 := by omega
  have e1 : (i : Int).tdiv 8 = ((i / 8 : Nat) : Int) := by
    rw [Int.tdiv_eq_ediv_of_nonneg (by omega)]; rfl
  have e2 : (i : Int).tmod 8 = ((i % 8 : Nat) : Int) := by
    rw [Int.tmod_eq_emod_of_nonneg (by omega)]; rfl
  have g0 : decide ((i : Int) < 0) = false := by simp
  have g1 : decide ((255 : Int) < (i : Int)) = false := by simp; omega
  have hc : (w.alloc (.cells (bc d) 23)).cell? ⟨w.heap.size, i / 8, none⟩ = some (.int .u8 ((d.getD (i / 8) 0).toNat : Int)) := by
    rw [cell_of_row _ _ _ _ _ _ (al1 w (.cells (bc d) 23)), bc_at _ _ (by omega)]
  unfold pBit
  have hv := (d.getD (i / 8) 0).toNat_lt
  generalize (d.getD (i / 8) 0).toNat = v at *
  generalize i / 8 = q at *
  generalize i % 8 = r at *
  obtain ⟨s, es⟩ : ∃ s : Nat, Hid (7 - r = s) := ⟨_, hide rfl⟩
  have e3 : (7 : Int) - (r : Int) = (s : Int) := by have := unhide es; omega
  rw [unhide es]
  have hs : s < 8 := by have := unhide es; omega
  have hv8 : v < 256 := by omega
  have b0 := (Below.refl w.heap.size w).alloc (Nat.le_refl _) (.cells (bc d) 23)
  clear es hv
  go_enter Tryd.func40, Tryd.ntmps40
  go_wp2
  go_loopw [5, 6] (fun n k wr => ∃ kk : Nat, kk ≤ s ∧ k = .int .i64 (kk : Int) ∧ n = .int .i64 ((v / 2 ^ kk : Nat) : Int) ∧ Below w.heap.size w wr) (fun _ k _ => s - (intOf k).toNat)
  case atStart => exact ⟨0, by omega, rfl, by simp, b0⟩
  case round =>
    obtain ⟨kk, hk, rfl, rfl, hb⟩ := hrel
    have hvk : v / 2 ^ kk ≤ v := Nat.div_le_self _ _
    have hst : v / 2 ^ (kk + 1) = v / 2 ^ kk / 2 := by rw [Nat.pow_succ, Nat.div_div_eq_div_mul]
    by_cases hlt : kk < s
    · have hd1 : decide ((kk : Int) < (s : Int)) = true := by simp; omega
      have hd2 : decide (kk < s) = true := by simp; omega
      have HS := hide hst
      generalize v / 2 ^ kk = V at *
      have e5 : (V : Int).tdiv 2 = ((V / 2 : Nat) : Int) := by
        rw [Int.tdiv_eq_ediv_of_nonneg (by omega)]; rfl
      rw [← unhide HS] at e5
      obtain ⟨V2, hV2⟩ : ∃ V2, v / 2 ^ (kk + 1) = V2 := ⟨_, rfl⟩
      have HV2 := hide hV2
      have hb2 : V2 < 256 := by rw [hV2] at hst; omega
      rw [hV2] at e5
      clear hst hV2
      go_wp2
      go_roundw
      case rel => exact ⟨kk + 1, by omega, by go_num, by rw [unhide HV2], hb⟩
      case measure => simp [intOf]; omega
    · have hd1 : decide ((kk : Int) < (s : Int)) = false := by simp; omega
      have hd2 : decide (kk < s) = false := by simp; omega
      have hks : kk = s := by omega
      subst hks
      clear hst
      obtain ⟨V, hV⟩ : ∃ V, v / 2 ^ kk = V := ⟨_, rfl⟩
      have HV := hide hV
      rw [hV] at hvk ⊢
      clear hV
      have e5 : (V : Int).tmod 2 = ((V % 2 : Nat) : Int) := by
        rw [Int.tmod_eq_emod_of_nonneg (by omega)]; rfl
      go_wp2
      go_ret
      refine ⟨?_, hb⟩
      rw [unhide HV]
      rfl
end Go.Proofs.YtonmccmeljeopaaDoor

namespace Go.Proofs.YtonmccmeljeopaaDoor
open Go Go.RowKit
set_option linter.unusedSimpArgs false
set_option linter.unusedVariables false

set_option maxHeartbeats 4000000 in
set_option maxRecDepth 100000 in
theorem ropenedQ_calls (d : List UInt8) (hd : d.length = 32) (P O : List UInt8) (hP : P.length = 1024) (hO : O.length = 1024) (g1 o1 c1 g2 o2 c2 : Nat) (L : Nat) (S : Nat → Prop) (I : List (List UInt8)) (hI : I.length ≤ 1000000000000) (w : World) (hL : RLogAt w L S I) (hg1 : g1 < w.heap.size) (hg2 : g2 < w.heap.size) (hn1 : ¬ S g1) (hn2 : ¬ S g2) (bP : Bytes w g1 o1 P) (bO : Bytes w g2 o2 O) :
    Calls Tryd.prog 22 #[.pointer (some ⟨L, 0, none⟩), .agg (bc d), .slice (some ⟨g1, o1, none⟩) 32 c1, .slice (some ⟨g2, o2, none⟩) 32 c2] w fun e w' => e = .returned (.tuple #[.agg (bc (pWordOf (pOpen d P O 32))), .bool true]) ∧ QS L S I 33 (fun J => (∀ j, j < 32 → uIn (chunk P j) ∈ J) ∧ wIn (pOpen d P O 32) ∈ J) w w' := by
  have hLL : (pOpen d P O 32).length = 2048 := pOpen_length d P O 32 (by omega)
  have hW : (pWordOf (pOpen d P O 32)).length = 32 := pOf_length _ _
  have hi1 := digInfo (pWordOf (pOpen d P O 32)) hW
  have hz1 := zeroSize (pWordOf (pOpen d P O 32)) hW
  have ho1 := bc_oneCell (pWordOf (pOpen d P O 32))
  have hi0 := digInfo d hd
  have CO := hide (fun S ins hin g w hs hl => rofQ_calls 3 (by decide) [pOpen d P O 32] (by simp; omega) (by simp) (some ⟨g, 0, none⟩) 1 L S ins hin w hs hl)
  have e2 : pOf 3 [pOpen d P O 32] = pWordOf (pOpen d P O 32) := rfl
  have e3 : pInput 3 [pOpen d P O 32] = wIn (pOpen d P O 32) := rfl
  rw [e2, e3] at CO
  obtain ⟨WI, hWI⟩ : ∃ y, wIn (pOpen d P O 32) = y := ⟨_, rfl⟩
  rw [hWI] at CO ⊢
  clear hWI
  have CB := hide (fun i hi w => rbit_calls d hd i hi w)
  have HLen := hide (fun k hk => pOpen_length d P O k hk)
  have HSucc := hide (pOpen_succ d P O)
  generalize pWordOf (pOpen d P O 32) = D at *
  have HbP := hide bP
  have HbO := hide bO
  have HG1 := hide hg1
  have HG2 := hide hg2
  have HM1 := hide hn1
  have HM2 := hide hn2
  obtain ⟨q0, q1⟩ := al2 w (.cells (bc d) 23) (.cells (bc (List.replicate 32 0)) 23)
  have b0 := bel2 w (.cells (bc d) 23) (.cells (bc (List.replicate 32 0)) 23)
  have sX : ((w.alloc (.cells (bc d) 23)).alloc (.cells (bc (List.replicate 32 0)) 23)).heap.size = w.heap.size + 1 + 1 := by simp
  obtain ⟨X, hX⟩ : ∃ X, (w.alloc (.cells (bc d) 23)).alloc (.cells (bc (List.replicate 32 0)) 23) = X := ⟨_, rfl⟩
  rw [hX] at q0 q1 b0 sX
  have HX := hide hX
  have SX := hide sX
  have LX := hide (hL.below b0)
  have HOLD := hide hL.old
  have HN0 : Hid (¬ S w.heap.size) := hide fun h => by have := hL.old _ h; omega
  have HN1 : Hid (¬ S (w.heap.size + 1)) := hide fun h => by have := hL.old _ h; omega
  have B0 := hide b0
  have Q0 := hide q0
  have Q1 := hide q1
  have HII := hide hI
  clear e2 e3 bP bO hX sX b0 q0 q1 hLL hL hI hg1 hg2 hn1 hn2
  go_enter Tryd.func22, Tryd.ntmps22
  go_upto_region 1 with fail
  change Code.wp _ _ _ _ ((w.alloc (.cells (bc d) 23)).alloc (.cells (bc (List.replicate 32 0)) 23))
  rw [unhide HX]
  go_wp2
  go_loopw [10, 11] (fun v i wr => ∃ (k : Nat) (S' : Nat → Prop) (I' : List (List UInt8)), k ≤ 32 ∧ i = .int .i64 (k : Int) ∧ Hid (Row X.heap.size (pOpen d P O k) v wr) ∧ Hid (LS X L S I k (fun J => ∀ j, j < k → uIn (chunk P j) ∈ J) v.ownBlock wr S' I')) (fun _ i _ => 32 - (intOf i).toNat)
  case atStart => exact ⟨0, S, I, by omega, rfl, hide (World.ownsRow_nil _ _ _ _), hide (LS.start (unhide LX) (fun j hj => absurd hj (Nat.not_lt_zero _)))⟩
  case round =>
    obtain ⟨k, S1, I1, hk, rfl, hrow, hls⟩ := hrel
    have hl := unhide HLen k (by omega)
    by_cases hlt : k < 32
    · have hd1 : decide ((k : Int) < 32) = true := by simp; omega
      have bk : (0 : Int) ≤ k ∧ (k : Int) < 32 := by omega
      have hcl1 := chunk_length P k (by omega)
      have hcl2 := chunk_length O k (by omega)
      have HcP := hide (pPublic_length (chunk P k))
      have HcO := hide hcl2
      have hs1 := unhide HSucc k
      have hn2 : Hid (I1.length < 1099511627000) := hide (by have := (unhide hls).2.2.2.2.2.2; have := unhide HII; omega)
      have cP := hide (fun w hl => rpublicQ_calls (chunk P k) hcl1 L S1 I1 (by have := unhide hn2; omega) w hl)
      have hpl : (pPublic (chunk P k)).length = 32 := pPublic_length _
      have cY := hide (fun w => rbytes_calls (pPublic (chunk P k)) hpl w)
      have cZ := hide (fun w => rbytes_calls (chunk O k) hcl2 w)
      have hiP : (Tryd.prog.info? 23).map (·.size) = some (Lib.byteCells (chunk P k)).length := by rw [Lib.byteCells_length, hcl1]; kernel_rfl
      have hiO : (Tryd.prog.info? 23).map (·.size) = some (Lib.byteCells (chunk O k)).length := by rw [Lib.byteCells_length, hcl2]; kernel_rfl
      have hbytesP : Hid (∀ W, RBut S X W → W.rangeAt g1 (o1 + k * 32) (Lib.byteCells (chunk P k))) := hide fun W h i v hv => by
        rw [← bytes_range ((unhide HbP).below (unhide B0) (unhide HG1)) k (by omega) i v hv]
        exact World.cell?_of_block (w := X) (h.block g1 (by have := unhide HG1; have := unhide SX; omega) (unhide HM1))
      have hbytesO : Hid (∀ W, RBut S X W → W.rangeAt g2 (o2 + k * 32) (Lib.byteCells (chunk O k))) := hide fun W h i v hv => by
        rw [← bytes_range ((unhide HbO).below (unhide B0) (unhide HG2)) k (by omega) i v hv]
        exact World.cell?_of_block (w := X) (h.block g2 (by have := unhide HG2; have := unhide SX; omega) (unhide HM2))
      have cB := hide (fun w => unhide CB k (by omega) w)
      have e0 : openAt d P O k = if pBit d k = 0 then pPublic (chunk P k) ++ chunk O k else chunk O k ++ pPublic (chunk P k) := rfl
      rw [e0] at hs1
      have hbt := pBit_lt d k
      have hs1h := hide hs1
      have hlh := hide hl
      have hnew : Hid ((∀ j, j < k → uIn (chunk P j) ∈ I1) → ∀ j, j < k + 1 → uIn (chunk P j) ∈ rnoted (uIn (chunk P k)) I1) := hide fun h j hj => by
        by_cases e : j = k
        · rw [e]; exact mem_rnoted _ _
        · exact mem_rnoted_old _ _ _ (h j (by omega))
      obtain ⟨A, hA⟩ : ∃ A, pOpen d P O k = A := ⟨_, rfl⟩
      rw [hA] at hrow hs1h hlh
      generalize pPublic (chunk P k) = PD at *
      generalize uIn (chunk P k) = UI at *
      generalize chunk P k = PC at *
      generalize chunk O k = OC at *
      clear e0 hs1 hl hA hcl1 hcl2 hpl
      by_cases hbit : pBit d k = 0
      · rw [hbit] at cB
        rw [if_pos hbit] at hs1h
        clear hbit hbt
        have rP := (unhide hbytesP) wr (unhide hls).2.1
        go_wp2_with (refine wpList_load_mid_gv rfl 23 (.tmp 29) rfl g1 (o1 + k * 32) rfl (Lib.byteCells PC) _ rP Tryd.underlying23 rfl hiP ?_)
        refine (unhide cP _ (unhide hls).1).mono ?_
        rintro e w1 ⟨rfl, st1⟩
        have r1 := hide ((unhide hrow).step st1 (unhide hls).2.2.2.1)
        obtain ⟨S2, l2⟩ := (unhide hls).step (P' := fun J => ∀ j, j < k + 1 → uIn (chunk P j) ∈ J) st1 (fun k e => ((unhide hrow).lt k e).2) (unhide hnew)
        have L2 := hide l2
        clear st1 l2 rP
        go_wp2_with fail
        refine (unhide cY _).mono ?_
        rintro e w2 ⟨rfl, d2⟩
        have r2 := hide ((unhide r1).below d2)
        have L3 := hide ((unhide L2).below d2)
        have p2 := (unhide L3).at (unhide Q0) (unhide HN0)
        clear d2
        go_wp2_with (refine wpList_load_row rfl 23 (.tmp 5) rfl w.heap.size rfl 23 _ (0, 0) _ p2 Tryd.underlying23 rfl hi0 ?_)
        refine (unhide cB _).mono ?_
        rintro e w3 ⟨rfl, d3⟩
        have r3 := hide ((unhide r2).below d3)
        have L4 := hide ((unhide L3).below d3)
        clear p2 d3
        go_wp2_with (first
          | (at_builtin; (refine wpList_append_at rfl (.tmp 37) (.tmp 38) rfl X.heap.size A u10 rfl PD (unhide r3) (unhide L4).2.1.size rfl (by (try simp only [List.length_append]); have := unhide hlh; have := unhide HcP; have := unhide HcO; omega) ?_); intro v4 w4 r4 g4 a4; have L5 := hide ((unhide L4).grow (v := u10) (v' := v4) (fun k e => ((unhide r3).lt k e).1) g4 a4); have R4 := hide r4; clear r4 g4 a4)
          | (refine wpList_load_mid_gv rfl 23 (.tmp 43) rfl g2 (o2 + k * 32) rfl (Lib.byteCells OC) _ ((unhide hbytesO) _ (unhide L5).2.1) Tryd.underlying23 rfl hiO ?_))
        refine (unhide cZ _).mono ?_
        rintro e w5 ⟨rfl, d5⟩
        have r5 := hide ((unhide R4).below d5)
        have L6 := hide ((unhide L5).below d5)
        clear d5
        go_wp2_with (at_builtin; (refine wpList_append_at rfl (.tmp 40) (.tmp 45) rfl X.heap.size (A ++ PD) v4 rfl OC (unhide r5) (unhide L6).2.1.size rfl (by (try simp only [List.length_append]); have := unhide hlh; have := unhide HcP; have := unhide HcO; omega) ?_); intro v6 w6 r6 g6 a6; have L7 := hide ((unhide L6).grow (v := v4) (v' := v6) (fun k e => ((unhide r5).lt k e).1) g6 a6); have R6 := hide r6; clear r6 g6 a6)
        go_roundw
        case rel => exact ⟨k + 1, S2, _, by omega, by go_num, by rw [unhide hs1h, ← List.append_assoc]; exact R6, L7⟩
        case measure => simp [intOf]; omega
      · have hb1 : pBit d k = 1 := by omega
        rw [hb1] at cB
        rw [if_neg hbit] at hs1h
        clear hbit hbt hb1
        have rP := (unhide hbytesP) wr (unhide hls).2.1
        go_wp2_with (refine wpList_load_mid_gv rfl 23 (.tmp 29) rfl g1 (o1 + k * 32) rfl (Lib.byteCells PC) _ rP Tryd.underlying23 rfl hiP ?_)
        refine (unhide cP _ (unhide hls).1).mono ?_
        rintro e w1 ⟨rfl, st1⟩
        have r1 := hide ((unhide hrow).step st1 (unhide hls).2.2.2.1)
        obtain ⟨S2, l2⟩ := (unhide hls).step (P' := fun J => ∀ j, j < k + 1 → uIn (chunk P j) ∈ J) st1 (fun k e => ((unhide hrow).lt k e).2) (unhide hnew)
        have L2 := hide l2
        clear st1 l2 rP
        go_wp2_with fail
        refine (unhide cY _).mono ?_
        rintro e w2 ⟨rfl, d2⟩
        have r2 := hide ((unhide r1).below d2)
        have L3 := hide ((unhide L2).below d2)
        have p2 := (unhide L3).at (unhide Q0) (unhide HN0)
        clear d2
        go_wp2_with (refine wpList_load_row rfl 23 (.tmp 5) rfl w.heap.size rfl 23 _ (0, 0) _ p2 Tryd.underlying23 rfl hi0 ?_)
        refine (unhide cB _).mono ?_
        rintro e w3 ⟨rfl, d3⟩
        have r3 := hide ((unhide r2).below d3)
        have L4 := hide ((unhide L3).below d3)
        clear p2 d3
        go_wp2_with (refine wpList_load_mid_gv rfl 23 (.tmp 50) rfl g2 (o2 + k * 32) rfl (Lib.byteCells OC) _ ((unhide hbytesO) _ (unhide L4).2.1) Tryd.underlying23 rfl hiO ?_)
        refine (unhide cZ _).mono ?_
        rintro e w5 ⟨rfl, d5⟩
        have r5 := hide ((unhide r3).below d5)
        have L5 := hide ((unhide L4).below d5)
        clear d5
        go_wp2_with (first
          | (at_builtin; (refine wpList_append_at rfl (.tmp 47) (.tmp 52) rfl X.heap.size A u10 rfl OC (unhide r5) (unhide L5).2.1.size rfl (by (try simp only [List.length_append]); have := unhide hlh; have := unhide HcP; have := unhide HcO; omega) ?_); intro v6 w6 r6 g6 a6; have L6 := hide ((unhide L5).grow (v := u10) (v' := v6) (fun k e => ((unhide r5).lt k e).1) g6 a6); have R6 := hide r6; clear r6 g6 a6)
          | (at_builtin; (refine wpList_append_at rfl (.tmp 54) (.tmp 55) rfl X.heap.size (A ++ OC) v6 rfl PD (unhide R6) (unhide L6).2.1.size rfl (by (try simp only [List.length_append]); have := unhide hlh; have := unhide HcP; have := unhide HcO; omega) ?_); intro v7 w7 r7 g7 a7; have L7 := hide ((unhide L6).grow (v := v6) (v' := v7) (fun k e => ((unhide R6).lt k e).1) g7 a7); have R7 := hide r7; clear r7 g7 a7))
        go_roundw
        case rel => exact ⟨k + 1, S2, _, by omega, by go_num, by rw [unhide hs1h, ← List.append_assoc]; exact R7, L7⟩
        case measure => simp [intOf]; omega
    · have hd1 : decide ((k : Int) < 32) = false := by simp; omega
      have hk32 : k = 32 := by omega
      subst hk32
      have hcv := (unhide hrow).convert
      have q1 := (unhide hls).at (unhide Q1) (unhide HN1)
      have z1 := (Array.getElem?_eq_some_iff.1 q1).1
      have hn2 : I1.length < 1099511627000 := by have := (unhide hls).2.2.2.2.2.2; have := unhide HII; omega
      have co := hide fun g W hs hl => unhide CO S1 I1 (by omega) g W hs hl
      have L1 := hide ((unhide hls).below ((Below.refl _ wr).alloc (Nat.le_refl _) (.cells #[.string (str (pOpen d P O 32))] 9)))
      generalize pOpen d P O 32 = LL at *
      have hcv2 : (convert 71 9 u10).run Tryd.prog wr = .ok (.string (str LL)) wr := hcv
      clear hn2 hcv hrow hlt hl
      go_wp2_with fail
      refine (unhide co _ _ (strsAt_one wr LL _) (unhide L1).1).mono ?_
      rintro e w3 ⟨rfl, st3⟩
      have q3 : w3.heap[w.heap.size + 1]? = some (.cells (bc (List.replicate 32 0)) 23 (0, 0)) := by
        obtain ⟨_, _, k2, _⟩ := st3
        exact (k2.block (w.heap.size + 1) (by rw [World.size_alloc]; omega) (fun h => ((unhide L1).2.2.1 _ h).elim (unhide HN1) (fun h2 => by have := unhide SX; omega))).trans ((Below.heap_alloc wr (.cells #[.string (str LL)] 9) _ z1).trans q1)
      obtain ⟨S5, l5⟩ := (LS.forget (unhide L1)).step (P' := fun J => (∀ j, j < 32 → uIn (chunk P j) ∈ J) ∧ WI ∈ J) st3 (fun k e => by cases e) (fun h => ⟨fun j hj => mem_rnoted_old _ _ _ (h j hj), mem_rnoted _ _⟩)
      have L5 := hide l5
      clear st3 l5 q1 hcv2
      go_wp2_with (refine wpList_store_row rfl 23 (.tmp 8) (.tmp 61) rfl (w.heap.size + 1) _ rfl rfl 23 _ q3 hi1 hz1 ho1 ?_)
      exact bodyPost_ret (results_row_tmp rfl _ _ (w.heap.size + 1) _ _ _ _ rfl (setRow_heap _ _ _ _ _ _ q3) Tryd.underlying23 rfl hi1) rfl ⟨rfl, ((unhide L5).mono (by omega) (fun h => h)).close_row (unhide B0) (unhide HOLD) (w.heap.size + 1) (by omega) (by have := unhide SX; omega) _⟩
end Go.Proofs.YtonmccmeljeopaaDoor

namespace Go.Proofs.YtonmccmeljeopaaDoor
open Go Go.RowKit
set_option linter.unusedSimpArgs false
set_option linter.unusedVariables false

theorem wpList_eql_kq {P : Program} {ops : Array Oper} {rest : List Oper} {o : Oper} {a : Act} {w : World} {Q : Exit → Act → World → Prop} (hw : Region.wanted o (yielded ops a.tmps) = true) (t t' : TypeId) (x y : Operand) (ho : o.op = .binOp .eql t x y t')
    (u v : Array Value) (hx : a.eval x = .agg u) (hy : a.eval y = .agg v) (hgt : P.eqGuardType P.depth t = false) (b : Bool) (he : ∀ w, (binOp .eql t (.agg u) (.agg v)).run P w = .ok (.bool b) w)
    (h : wpList P ops Q rest (a.put o.dst (.bool b)) w) : wpList P ops Q (o :: rest) a w :=
  wpList_step fun K hK => by
    rw [if_pos hw]
    have hg : (eqGuard .eql t x y (.agg u) (.agg v)).run P w = .ok () w := run_eqGuard_agg w .eql t x y u v hgt
    unfold Oper.wp execOp
    simp only [ho, hx, hy, Sem.run_bind, hg, Result.andThen_ok, he]
    exact hK _ _ h
/-- What a Verify notes. -/
def VNot (e P O : List UInt8) (x : Nat) (ds : List (List UInt8)) (J : List (List UInt8)) : Prop :=
  (∀ j, j < 32 → uIn (chunk P j) ∈ J) ∧ wIn (pOpen e P O 32) ∈ J ∧ ∀ k, k < 4 → kIn (pWordOf (pOpen e P O 32)) x ds k ∈ J
set_option maxHeartbeats 4000000 in
set_option maxRecDepth 100000 in
theorem rverifyQ_calls (root e : List UInt8) (hRl : root.length = 32) (he : e.length = 32) (x : Nat) (hx : x < 16) (P O : List UInt8) (hPl : P.length = 1024) (hOl : O.length = 1024) (ds : List (List UInt8)) (hds : ds.length = 4) (g1 o1 c1 g2 o2 c2 : Nat) (p3 : Option Addr) (c3 : Nat) (L : Nat) (S : Nat → Prop) (I : List (List UInt8)) (hI : I.length ≤ 100000000000) (w : World) (hL : RLogAt w L S I) (hg1 : g1 < w.heap.size) (hg2 : g2 < w.heap.size) (hn1 : ¬ S g1) (hn2 : ¬ S g2) (hO : Out p3 S) (bP : Bytes w g1 o1 P) (bO : Bytes w g2 o2 O) (hD : DL w p3 ds) :
    Calls Tryd.prog 10 #[.pointer (some ⟨L, 0, none⟩), .agg (bc root), .agg (bc e), .agg #[.int .i64 (x : Int), .slice (some ⟨g1, o1, none⟩) 32 c1, .slice (some ⟨g2, o2, none⟩) 32 c2, .slice p3 4 c3]] w fun en w' => en = .returned (.bool (decide (kClimb (pWordOf (pOpen e P O 32)) x ds 4 = root))) ∧ QS L S I 100 (VNot e P O x ds) w w' := by
  have hiR := digInfo _ hRl
  have hid := digInfo e he
  have d0x : decide ((x : Int) < 0) = false := by simp
  have d1x : decide ((15 : Int) < (x : Int)) = false := by simp; omega
  have co := hide fun W hL h1 h2 b1 b2 => ropenedQ_calls e he P O hPl hOl g1 o1 c1 g2 o2 c2 L S I (by omega) W hL h1 h2 hn1 hn2 b1 b2
  have hWl : (pWordOf (pOpen e P O 32)).length = 32 := pOf_length _ _
  have hiW := digInfo _ hWl
  have hzW := zeroSize _ hWl
  have cc := hide fun S' I' hI W hL hO hD => rclimb6Q_calls (pWordOf (pOpen e P O 32)) hWl x (by omega) ds p3 c3 (by omega) L S' I' hI W hL hO hD
  rw [hds] at cc
  have hTl := kClimb_length (pWordOf (pOpen e P O 32)) x ds hWl 4
  have heq := hide fun W => dig_eq (kClimb (pWordOf (pOpen e P O 32)) x ds 4) root hTl hRl W
  obtain ⟨ans, hans⟩ : ∃ ans, decide (kClimb (pWordOf (pOpen e P O 32)) x ds 4 = root) = ans := ⟨_, rfl⟩
  have hV : Hid (∀ J, (∀ j, j < 32 → uIn (chunk P j) ∈ J) → wIn (pOpen e P O 32) ∈ J → (∀ k, k < 4 → kIn (pWordOf (pOpen e P O 32)) x ds k ∈ J) → VNot e P O x ds J) := hide fun J h1 h2 h3 => ⟨h1, h2, h3⟩
  obtain ⟨VN, hVN⟩ : ∃ V, VNot e P O x ds = V := ⟨_, rfl⟩
  rw [hVN] at hV ⊢
  rw [hans] at heq ⊢
  generalize kClimb (pWordOf (pOpen e P O 32)) x ds 4 = TD at *
  generalize pWordOf (pOpen e P O 32) = WD at *
  generalize root = R at *
  obtain ⟨q0, q1, q2⟩ := al3 w (.cells (bc R) 23) (.cells (bc e) 23) (.cells #[.int .i64 (x : Int), .slice (some ⟨g1, o1, none⟩) 32 c1, .slice (some ⟨g2, o2, none⟩) 32 c2, .slice p3 4 c3] 26)
  have hb := bel3 w (.cells (bc R) 23) (.cells (bc e) 23) (.cells #[.int .i64 (x : Int), .slice (some ⟨g1, o1, none⟩) 32 c1, .slice (some ⟨g2, o2, none⟩) 32 c2, .slice p3 4 c3] 26)
  have sX : (((w.alloc (.cells (bc R) 23)).alloc (.cells (bc e) 23)).alloc (.cells #[.int .i64 (x : Int), .slice (some ⟨g1, o1, none⟩) 32 c1, .slice (some ⟨g2, o2, none⟩) 32 c2, .slice p3 4 c3] 26)).heap.size = w.heap.size + 1 + 1 + 1 := by simp
  have u1 := hide (bP.below hb hg1)
  have u2 := hide (bO.below hb hg2)
  have u3 := hide (hD.below hb (Nat.le_refl _))
  obtain ⟨X, hX⟩ : ∃ X, ((w.alloc (.cells (bc R) 23)).alloc (.cells (bc e) 23)).alloc (.cells #[.int .i64 (x : Int), .slice (some ⟨g1, o1, none⟩) 32 c1, .slice (some ⟨g2, o2, none⟩) 32 c2, .slice p3 4 c3] 26) = X := ⟨_, rfl⟩
  rw [hX] at q0 q1 q2 hb u1 u2 u3 sX
  have Z1 : Hid (g1 < X.heap.size) := hide (by omega)
  have Z2 : Hid (g2 < X.heap.size) := hide (by omega)
  have SX := hide sX
  have HX := hide hX
  have LX := hide (hL.below hb)
  have HOLD := hide hL.old
  have HII := hide hI
  have HO := hide hO
  have HB := hide hb
  have N0 : Hid (¬ S w.heap.size) := hide fun h => by have := hL.old _ h; omega
  have N2 : Hid (¬ S (w.heap.size + 1 + 1)) := hide fun h => by have := hL.old _ h; omega
  have Q0 := hide q0
  have Q2 := hide q2
  have k0 : X.cell? ⟨w.heap.size + 1 + 1, 0, none⟩ = some (.int .i64 (x : Int)) := cell_of_row _ _ _ _ _ _ q2
  have k1 : X.cell? ⟨w.heap.size + 1 + 1, 1, none⟩ = some (.slice (some ⟨g1, o1, none⟩) 32 c1) := cell_of_row _ _ _ _ _ _ q2
  have k2 : X.cell? ⟨w.heap.size + 1 + 1, 2, none⟩ = some (.slice (some ⟨g2, o2, none⟩) 32 c2) := cell_of_row _ _ _ _ _ _ q2
  have k3 : X.cell? ⟨w.heap.size + 1 + 1, 3, none⟩ = some (.slice p3 4 c3) := cell_of_row _ _ _ _ _ _ q2
  clear hX hRl hTl hans hPl hOl hds bP bO hD hg1 hg2 hn1 hn2 hO hL hI q0 q2 sX hb hVN
  go_enter Tryd.func10, Tryd.ntmps10
  go_wp2_with (first
    | (rw [unhide HX])
    | (refine wpList_load_row rfl 23 (.tmp 6) rfl (w.heap.size + 1) rfl 23 _ (0, 0) _ q1 Tryd.underlying23 rfl hid ?_))
  refine (unhide co _ (unhide LX) (unhide Z1) (unhide Z2) (unhide u1) (unhide u2)).mono ?_
  rintro en w2 ⟨rfl, S2, I2, L2, B2, M2, mo2, nt2, le2⟩
  have HL2 := hide L2
  have HB2 := hide B2
  have HM2 := hide M2
  have Hmo2 := hide mo2
  have Hnt2 := hide nt2
  have Hle2 := hide le2
  clear L2 B2 M2 mo2 nt2 le2 k0 k1 k2 k3 q1
  go_wp2_with (refine wpList_store_new rfl 23 (.tmp 9) (.tmp 33) rfl w2 _ _ WD rfl rfl hiW hzW ?_; intro w3 q9 b3 z3)
  have L3 := hide ((unhide HL2).below b3)
  have B3 := hide ((unhide HB2).then_below b3 (unhide HB2).size)
  have p0 := hide (((unhide B3).block _ (Array.getElem?_eq_some_iff.1 (unhide Q0)).1 (unhide N0)).trans (unhide Q0))
  have p2 := hide (((unhide B3).block _ (Array.getElem?_eq_some_iff.1 (unhide Q2)).1 (unhide N2)).trans (unhide Q2))
  have D3 := hide ((unhide u3).rbut (unhide B3) (fun _ => unhide HO))
  have K2 : Hid (¬ S2 w2.heap.size) := hide fun h => by have := (unhide HL2).old _ h; omega
  have O2 : Hid (ds ≠ [] → Out p3 S2) := hide fun hne => Out.step (unhide HO) (unhide u3) (unhide HM2) hne
  have S0 : Hid (¬ S2 w.heap.size) := hide fun h => ((unhide HM2) _ h).elim (unhide N0) (fun h2 => by have := unhide SX; omega)
  have S22 : Hid (¬ S2 (w.heap.size + 1 + 1)) := hide fun h => ((unhide HM2) _ h).elim (unhide N2) (fun h2 => by have := unhide SX; omega)
  obtain ⟨K, hK⟩ : ∃ K, w2.heap.size = K := ⟨_, rfl⟩
  rw [hK] at q9 K2
  rw [hK]
  have Q9 := hide q9
  clear q9 b3 z3 hK
  go_wp2_with fail
  obtain ⟨SS, hSS⟩ : ∃ SS : World → Prop, SS = fun W => W.heap[w.heap.size]? = some (.cells (bc R) 23 (0, 0)) ∧ W.heap[K]? = some (.cells (bc WD) 23 (0, 0)) ∧ W.heap[w.heap.size + 1 + 1]? = some (.cells #[.int .i64 (x : Int), .slice (some ⟨g1, o1, none⟩) 32 c1, .slice (some ⟨g2, o2, none⟩) 32 c2, .slice p3 4 c3] 26 (0, 0)) := ⟨_, rfl⟩
  have HSS : Hid (∀ W : World, SS W ↔ (W.heap[w.heap.size]? = some (.cells (bc R) 23 (0, 0)) ∧ W.heap[K]? = some (.cells (bc WD) 23 (0, 0)) ∧ W.heap[w.heap.size + 1 + 1]? = some (.cells #[.int .i64 (x : Int), .slice (some ⟨g1, o1, none⟩) 32 c1, .slice (some ⟨g2, o2, none⟩) 32 c2, .slice p3 4 c3] 26 (0, 0)))) := hide fun W => by rw [hSS]
  clear hSS
  have r0 : Hid (∀ W, SS W → W.heap[w.heap.size]? = some (.cells (bc R) 23 (0, 0))) := hide fun W h => ((unhide HSS W).1 h).1
  have rK : Hid (∀ W, SS W → W.heap[K]? = some (.cells (bc WD) 23 (0, 0))) := hide fun W h => ((unhide HSS W).1 h).2.1
  have rc0 : Hid (∀ W, SS W → W.cell? ⟨w.heap.size + 1 + 1, 0, none⟩ = some (.int .i64 (x : Int))) := hide fun W h => by rw [cell_of_row _ _ _ _ _ _ ((unhide HSS W).1 h).2.2]; rfl
  have rc3 : Hid (∀ W, SS W → W.cell? ⟨w.heap.size + 1 + 1, 3, none⟩ = some (.slice p3 4 c3)) := hide fun W h => by rw [cell_of_row _ _ _ _ _ _ ((unhide HSS W).1 h).2.2]; rfl
  have hS0 : SS ({ w3 with drawn := w3.drawn + 1 } : World) := (unhide HSS _).2 ⟨unhide p0, unhide Q9, unhide p2⟩
  have Sd0 : Below w3.heap.size w3 ({ w3 with drawn := w3.drawn + 1 } : World) := ⟨rfl, rfl, rfl, Nat.le_refl _, fun _ _ => rfl⟩
  refine wp_region_held (S := SS) mixed ?_
  obtain ⟨d0, hd0⟩ : ∃ d, { w3 with drawn := w3.drawn + 1 } = d := ⟨_, rfl⟩
  rw [hd0] at Sd0 hS0
  rw [hd0]
  clear hd0
  have HSd := hide Sd0
  clear Sd0
  refine wpAnyH_take (i := 0) rfl (by kernel_rfl) (by kernel_rfl) (by kernel_rfl) (fun _ _ _ h => h) (.inl ⟨rfl, fun _ _ => rfl⟩) hS0 ?_
  refine wpAnyH_take (i := 1) rfl (by kernel_rfl) (by kernel_rfl) (by kernel_rfl) (fun _ _ _ h => h) (yields_row rfl 23 (.tmp 9) rfl K rfl 23 _ (0, 0) _ (unhide rK) Tryd.underlying23 rfl hiW) hS0 ?_
  refine wpAnyH_take (i := 2) rfl (by kernel_rfl) (by kernel_rfl) (by kernel_rfl) (fun _ _ _ h => h) (.inl ⟨rfl, fun _ _ => rfl⟩) hS0 ?_
  refine wpAnyH_take (i := 3) (v := .int .i64 (x : Int)) rfl (by kernel_rfl) (by kernel_rfl) (by kernel_rfl) (fun _ _ _ h => h) (.inl ⟨rfl, fun W hW => by have c2 := unhide rc0 W hW; go_simp⟩) hS0 ?_
  refine wpAnyH_take (i := 4) rfl (by kernel_rfl) (by kernel_rfl) (by kernel_rfl) (fun _ _ _ h => h) (.inl ⟨rfl, fun _ _ => rfl⟩) hS0 ?_
  refine wpAnyH_take (i := 5) (v := .slice p3 4 c3) rfl (by kernel_rfl) (by kernel_rfl) (by kernel_rfl) (fun _ _ _ h => h) (.inl ⟨rfl, fun W hW => by have c2 := unhide rc3 W hW; go_simp⟩) hS0 ?_
  refine wpAnyH_take (i := 7) rfl (by kernel_rfl) (by kernel_rfl) (by kernel_rfl) (fun _ _ _ h => h) (yields_row rfl 23 (.tmp 5) rfl w.heap.size rfl 23 _ (0, 0) _ (unhide r0) Tryd.underlying23 rfl hiR) hS0 ?_
  refine wpAnyH_one 6 _ (by kernel_rfl) rfl ?_
  have Hs0 := hide hS0
  clear hS0
  go_wp2_with fail
  refine (unhide cc S2 I2 (by have := unhide HII; have := unhide Hle2; omega) _ ((unhide L3).below (unhide HSd)) (unhide O2) ((unhide D3).below (unhide HSd) (Nat.le_refl _))).mono ?_
  rintro en w5 ⟨rfl, S5, I5, L5, B5, M5, mo5, nt5, le5⟩
  have zd : w3.heap.size ≤ d0.heap.size := (unhide HSd).size
  have hs0 := (unhide HSS _).1 (unhide Hs0)
  have hS5 : SS w5 := (unhide HSS _).2 ⟨(B5.block _ (Array.getElem?_eq_some_iff.1 hs0.1).1 (unhide S0)).trans hs0.1, (B5.block _ (Array.getElem?_eq_some_iff.1 hs0.2.1).1 (unhide K2)).trans hs0.2.1, (B5.block _ (Array.getElem?_eq_some_iff.1 hs0.2.2).1 (unhide S22)).trans hs0.2.2⟩
  have HL5 := hide L5
  have HB5 := hide B5
  have HM5 := hide M5
  have Hmo5 := hide mo5
  have Hnt5 := hide nt5
  have Hle5 := hide le5
  have ZD := hide zd
  clear L5 B5 M5 mo5 nt5 le5 hs0 zd
  go_wp2
  refine ⟨hS5, ?_⟩
  refine wpAnyH_one 8 _ (by kernel_rfl) rfl ?_
  refine wpList_eql_kq rfl 23 23 (.tmp 43) (.tmp 44) rfl _ _ rfl rfl (by kernel_rfl) ans (unhide heq) ?_
  go_wp2
  refine ⟨hS5, ?_⟩
  refine wpAnyH_one 9 _ (by kernel_rfl) rfl ?_
  go_wp2
  refine ⟨hS5, wpAnyH_done (by kernel_rfl) ?_ _⟩
  go_wp2
  go_ret
  refine ⟨rfl, S5, I5, unhide HL5, ?_, ?_, fun s h => unhide Hmo5 s (unhide Hmo2 s h), unhide hV I5 (fun j hj => unhide Hmo5 _ ((unhide Hnt2).1 j hj)) (unhide Hmo5 _ (unhide Hnt2).2) (unhide Hnt5), by have := unhide Hle5; have := unhide Hle2; omega⟩
  · have b1 := (unhide B3).then_below (unhide HSd) (unhide B3).size
    have b2 := b1.trans (unhide HB5) (unhide HM2)
    exact (RBut.of_below (unhide HB)).trans b2 (fun k h => .inl h)
  · intro k h
    rcases unhide HM5 k h with h | h
    · exact (unhide HM2 k h).imp_right (fun h2 => by have := unhide SX; omega)
    · exact .inr (by have := unhide ZD; have := (unhide B3).size; have := unhide SX; omega)
end Go.Proofs.YtonmccmeljeopaaDoor

namespace Go.Proofs.YtonmccmeljeopaaDoor
open Go Go.RowKit
set_option linter.unusedSimpArgs false
set_option linter.unusedVariables false

/-- The inputs of all nodes below one. -/
def KNoted (ds : List (List UInt8)) : Nat → Nat → List (List UInt8) → Prop
  | 0, _, _ => True
  | k + 1, x, I => rIn ((kLev ds k).getD (2 * x) []) ((kLev ds k).getD (2 * x + 1) []) ∈ I ∧ KNoted ds k (2 * x) I ∧ KNoted ds k (2 * x + 1) I
theorem KNoted.mono {ds : List (List UInt8)} : ∀ {k x : Nat} {I J : List (List UInt8)}, KNoted ds k x I → (∀ s ∈ I, s ∈ J) → KNoted ds k x J
  | 0, _, _, _, _, _ => trivial
  | k + 1, x, I, J, ⟨h1, h2, h3⟩, hs => ⟨hs _ h1, h2.mono hs, h3.mono hs⟩
theorem pow16 (k : Nat) (h : k + 1 ≤ 4) : 16 / 2 ^ k = 2 * (16 / 2 ^ (k + 1)) := by
  have : k = 0 ∨ k = 1 ∨ k = 2 ∨ k = 3 := by omega
  rcases this with rfl | rfl | rfl | rfl <;> rfl
theorem lev_at (ds : List (List UInt8)) (hds : ds.length = 16) (h32 : ∀ d ∈ ds, d.length = 32) (k x : Nat) (hx : x < 16 / 2 ^ k) : ((kLev ds k).getD x []).length = 32 :=
  getD_32 (kLev_32 ds h32 k) x (by rw [kLev_length, hds]; exact hx)
theorem lev_succ (ds : List (List UInt8)) (hds : ds.length = 16) (k x : Nat) (hk : k + 1 ≤ 4) (hx : x < 16 / 2 ^ (k + 1)) : (kLev ds (k + 1)).getD x [] = pR ((kLev ds k).getD (2 * x) []) ((kLev ds k).getD (2 * x + 1) []) := by
  rw [kLev, pUp_at _ _ (by rw [kLev_length, hds]; have := pow16 k hk; omega)]
  rfl
set_option maxHeartbeats 4000000 in
set_option maxRecDepth 100000 in
theorem rnode6Q_calls (ds : List (List UInt8)) (hds : ds.length = 16) (h32 : ∀ d ∈ ds, d.length = 32) (pl : Option Addr) (cl : Nat) (L : Nat) : ∀ (k : Nat), k ≤ 4 → ∀ (x : Nat), x < 16 / 2 ^ k → ∀ (S : Nat → Prop) (I : List (List UInt8)) (hI : I.length + 2 ^ k ≤ 1099511627776) (w : World) (hL : RLogAt w L S I) (ol : Out pl S), DL w pl ds →
    Calls Tryd.prog 18 #[.pointer (some ⟨L, 0, none⟩), .slice pl 16 cl, .int .i64 (k : Int), .int .i64 (x : Int)] w fun e w' => e = .returned (.agg (bc ((kLev ds k).getD x []))) ∧ QS L S I (2 ^ k - 1) (KNoted ds k x) w w' := by
  intro k
  induction k with
  | zero =>
    intro hk x hx S I hI w hL ol hD
    have HLL := hide hL
    clear hL ol hI
    have a1 := al1 w (.cells (bc (List.replicate 32 0)) 23)
    have b1 := hide ((Below.refl w.heap.size w).alloc (Nat.le_refl _) (.cells (bc (List.replicate 32 0)) 23))
    have hx1 : x < 16 := by simpa using hx
    obtain ⟨X, hX⟩ : ∃ X, w.alloc (.cells (bc (List.replicate 32 0)) 23) = X := ⟨_, rfl⟩
    rw [hX] at a1 b1
    have HX := hide hX
    clear hX
    have hxl : x < ds.length := by omega
    obtain ⟨b, off, rfl, hbz, hc⟩ := hD.2 (by intro h; rw [h] at hxl; simp at hxl)
    have hr := rangeAt_below (hc x hxl) (unhide b1) hbz
    have hl0 := hD.len x hxl
    have est : (kLev ds 0).getD x [] = ds.getD x [] := rfl
    rw [est]
    obtain ⟨D, hDD⟩ : ∃ D, ds.getD x [] = D := ⟨_, rfl⟩
    rw [hDD] at hr hl0
    rw [hDD]
    have hi := digInfo D hl0
    have hz : Hid ((bc (List.replicate 32 (0 : UInt8))).size = (bc D).size) := by show _ = _; rw [bc_size, bc_size, hl0]; rfl
    have ho := bc_oneCell D
    have hl := hide hl0
    have HR := hide hr
    have b3 : (0 : Int) ≤ (x : Int) ∧ (x : Int) < 16 := by omega
    clear hr hc hD hDD hx hl0 est hxl
    go_enter Tryd.func18, Tryd.ntmps18
    go_upto_region 1 with fail
    change Code.wp _ _ _ _ (w.alloc (.cells (bc (List.replicate 32 0)) 23))
    rw [unhide HX]
    go_wp2_with (first
      | refine wpList_load_mid rfl 23 (.tmp 15) rfl b (off + x * 32) rfl (Lib.byteCells D) _ (unhide HR) Tryd.underlying23 rfl (by rw [Lib.byteCells_length, unhide hl]; kernel_rfl) ?_
      | refine wpList_store_row rfl 23 (.tmp 8) (.tmp 16) rfl w.heap.size (bc D) rfl rfl 23 _ a1 hi (unhide hz) ho ?_)
    exact bodyPost_ret (results_cell_row rfl _ _ w.heap.size _ _ _ _ rfl (setRow_heap _ _ _ _ _ _ a1) Tryd.underlying23 rfl hi) rfl ⟨rfl, QS.same (unhide HLL) (below_setRow (unhide b1) (Nat.le_refl _) _) trivial⟩
  | succ k ih =>
    intro hk x hx S I hI w hL ol hD
    have HLL := hide hL
    have HOLD := hide hL.old
    have OL := hide ol
    clear hL ol
    have a1 := al1 w (.cells (bc (List.replicate 32 0)) 23)
    have b1 := hide ((Below.refl w.heap.size w).alloc (Nat.le_refl _) (.cells (bc (List.replicate 32 0)) 23))
    have hpow : 2 ^ (k + 1) = 2 * 2 ^ k := by rw [Nat.pow_succ]; omega
    have hpos : 1 ≤ 2 ^ k := Nat.one_le_two_pow
    have h16 := pow16 k hk
    have hb16 : 16 / 2 ^ k ≤ 16 := Nat.div_le_self _ _
    have hx1 : 2 * x + 1 < 16 := by omega
    have c1 := fun S I hI w hL ol => ih (by omega) (2 * x) (by omega) S I hI w hL ol
    have c2 := fun S I hI w hL ol => ih (by omega) (2 * x + 1) (by omega) S I hI w hL ol
    have HNt : Hid (∀ J, rIn ((kLev ds k).getD (2 * x) []) ((kLev ds k).getD (2 * x + 1) []) ∈ J → KNoted ds k (2 * x) J → KNoted ds k (2 * x + 1) J → KNoted ds (k + 1) x J) := hide fun J h1 h2 h3 => ⟨h1, h2, h3⟩
    have HCt : Hid (2 ^ (k + 1) - 1 = (2 ^ k - 1) + (2 ^ k - 1) + 1) := hide (by omega)
    obtain ⟨CC, hCC⟩ : ∃ C, 2 ^ (k + 1) - 1 = C := ⟨_, rfl⟩
    rw [hCC] at HCt ⊢
    have HI2 : Hid (I.length + 2 ^ k + 2 ^ k ≤ 1099511627776) := hide (by omega)
    clear hI
    have est := lev_succ ds hds k x hk hx
    have hl1 := lev_at ds hds h32 k (2 * x) (by omega)
    have hl2 := lev_at ds hds h32 k (2 * x + 1) (by omega)
    have hlt' := lev_at ds hds h32 (k + 1) x hx
    obtain ⟨K2, hK2⟩ : ∃ C, 2 ^ k = C := ⟨_, rfl⟩
    have HK1 : Hid (1 ≤ K2) := hide (by rw [← hK2]; exact hpos)
    rw [hK2] at HCt HI2 c1 c2
    obtain ⟨K, hK⟩ : ∃ K, k + 1 = K := ⟨_, rfl⟩
    have hK1 : (K : Int) - 1 = (k : Int) := by omega
    have hK0 : ((K : Int) == 0) = false := by simp; omega
    have hKb : K ≤ 4 := by omega
    obtain ⟨y, hy⟩ : ∃ y, 2 * x = y := ⟨_, rfl⟩
    have hy1 : 2 * (x : Int) = (y : Int) := by omega
    obtain ⟨y1, hy2⟩ : ∃ y1, y + 1 = y1 := ⟨_, rfl⟩
    have hy3 : (y : Int) + 1 = (y1 : Int) := by omega
    have hyb : y1 < 16 := by omega
    rw [hy] at c1 c2 HNt est hl1 hl2
    rw [hy2] at c2 HNt est hl2
    rw [est] at hlt'
    have HNE : Hid (ds ≠ []) := hide (by intro h; rw [h] at hds; simp at hds)
    rw [est]
    rw [hK] at HNt
    rw [hK]
    obtain ⟨X, hX⟩ : ∃ X, w.alloc (.cells (bc (List.replicate 32 0)) 23) = X := ⟨_, rfl⟩
    rw [hX] at a1 b1
    have HX := hide hX
    have zX := hide (Array.getElem?_eq_some_iff.1 a1).1
    have hDX := hide (hD.below (unhide b1) (Nat.le_refl _))
    have cT := fun L S I hI W hL => rR2Q_calls _ _ hl1 hl2 L S I hI W hL
    have eR : ∀ a b, pOf 4 [a, b] = pR a b := fun a b => rfl
    simp only [eR] at cT
    obtain ⟨D1, hD1⟩ : ∃ D, (kLev ds k).getD y [] = D := ⟨_, rfl⟩
    obtain ⟨D2, hD2⟩ : ∃ D, (kLev ds k).getD y1 [] = D := ⟨_, rfl⟩
    rw [hD1] at c1 hl1 HNt
    rw [hD2] at c2 hl2 HNt
    rw [hD1, hD2] at hlt' cT
    rw [hD1, hD2]
    obtain ⟨D3, hD3⟩ : ∃ D, pR D1 D2 = D := ⟨_, rfl⟩
    rw [hD3] at hlt' cT
    rw [hD3]
    have hi1 := digInfo D1 hl1
    have hi2 := digInfo D2 hl2
    have hi3 := digInfo D3 hlt'
    have hz1 := zeroSize D1 hl1
    have hz2 := zeroSize D2 hl2
    have hz3 : Hid ((bc (List.replicate 32 (0 : UInt8))).size = (bc D3).size) := by show _ = _; rw [bc_size, bc_size, hlt']; rfl
    have ho3 := bc_oneCell D3
    have C1 := hide c1
    have C2 := hide c2
    have CT := hide cT
    have LX : Hid (RLogAt X L S I) := hide ((unhide HLL).below (unhide b1))
    clear hX hpow hpos hy hy2 ih hx hK2 hCC hD hD1 hD2 hD3 c1 c2 cT est hl1 hl2 hlt' hK eR h16 hb16
    go_enter Tryd.func18, Tryd.ntmps18
    go_upto_region 1 with fail
    change Code.wp _ _ _ _ (w.alloc (.cells (bc (List.replicate 32 0)) 23))
    rw [unhide HX]
    go_wp2_with fail
    refine (unhide C1 S I (by have := unhide HI2; omega) _ (unhide LX) (unhide OL) (unhide hDX)).mono ?_
    rintro e w3 ⟨rfl, S3, I3, L3, B3, M3, mo3, nt3, le3⟩
    have p0 := (B3.block _ (unhide zX) (fun h => by have := unhide HOLD _ h; omega)).trans a1
    have z3 := hide (Nat.lt_of_lt_of_le (unhide zX) B3.size)
    have dD := hide ((unhide hDX).rbut B3 (fun _ => unhide OL))
    have OL3 := hide (Out.step (unhide OL) (unhide hDX) M3 (unhide HNE))
    have N3 : Hid (¬ S3 w.heap.size) := hide fun h => by rcases M3 _ h with h | h; have := unhide HOLD _ h; omega; have := unhide zX; omega
    have P0 := hide p0
    have HL3 := hide L3
    have HB3 := hide B3
    have HM3 := hide M3
    have Hmo3 := hide mo3
    have Hnt3 := hide nt3
    have Hle3 := hide le3
    clear p0 B3 C1 a1 hDX L3 M3 mo3 nt3 le3 OL
    go_wp2_with (refine wpList_store_new rfl 23 (.tmp 9) (.tmp 23) rfl w3 _ _ D1 rfl rfl hi1 hz1 ?_; intro w4 q4 b4 y4; have P4 := hide (Below.at b4 (unhide z3) (unhide P0)); have dD4 := hide ((unhide dD).below b4 (Nat.le_refl _)); have L4 := hide ((unhide HL3).below b4); have B4 := hide ((unhide HB3).then_below b4 (unhide HB3).size); clear b4 P0 dD)
    have Q4 := hide q4
    have z4 := hide (Array.getElem?_eq_some_iff.1 q4).1
    have G4 : Hid (¬ S3 w3.heap.size) := hide fun h => by have := (unhide HL3).old _ h; omega
    obtain ⟨G1, hG1⟩ : ∃ G, w3.heap.size = G := ⟨_, rfl⟩
    rw [hG1] at Q4 z4 z3 G4
    simp only [hG1]
    clear q4 y4 hG1
    refine (unhide C2 S3 I3 (by have := unhide HI2; have := unhide Hle3; omega) _ (unhide L4) (unhide OL3) (unhide dD4)).mono ?_
    rintro e w5 ⟨rfl, S5, I5, L5, B5, M5, mo5, nt5, le5⟩
    have z4' : w.heap.size < w4.heap.size := Nat.lt_trans (unhide z3) (unhide z4)
    have P5 := hide ((B5.block _ z4' (unhide N3)).trans (unhide P4))
    have Q5 := hide ((B5.block _ (unhide z4) (unhide G4)).trans (unhide Q4))
    have z5 := hide (Nat.lt_of_lt_of_le (unhide z4) B5.size)
    have N5 : Hid (¬ S5 w.heap.size) := hide fun h => by rcases M5 _ h with h | h; exact unhide N3 h; omega
    have G5 : Hid (¬ S5 G1) := hide fun h => by rcases M5 _ h with h | h; exact unhide G4 h; have := unhide z4; omega
    have BX5 := hide ((unhide B4).trans B5 (unhide HM3))
    have MX5 : Hid (∀ k, S5 k → S k ∨ X.heap.size ≤ k) := hide fun k h => (M5 k h).elim (unhide HM3 k) (fun h2 => .inr (Nat.le_trans (unhide B4).size h2))
    have HL5 := hide L5
    have Hmo5 := hide mo5
    have Hnt5 := hide nt5
    have Hle5 := hide le5
    clear B5 z4' C2 dD4 P4 Q4 B4 HB3 L5 M5 mo5 nt5 le5 L4 HL3 HM3 G4 N3 OL3
    go_wp2_with (first
      | (refine wpList_store_new rfl 23 (.tmp 10) (.tmp 31) rfl w5 _ _ D2 rfl rfl hi2 hz2 ?_; intro w6 q6 b6 y6; have Q6 := hide (Below.at b6 (unhide z5) (unhide Q5)); have P6 := hide (Below.at b6 (Nat.lt_trans (unhide z3) (unhide z5)) (unhide P5)); have L6 := hide ((unhide HL5).below b6); have B6 := hide ((unhide BX5).then_below b6 (unhide BX5).size); clear b6 P5 Q5)
      | refine wpList_load_row rfl 23 (.tmp 9) rfl G1 rfl 23 _ (0, 0) _ (unhide Q6) Tryd.underlying23 rfl hi1 ?_
      | refine wpList_load_row rfl 23 (.tmp 10) rfl w5.heap.size rfl 23 _ (0, 0) _ q6 Tryd.underlying23 rfl hi2 ?_)
    have z6 : w.heap.size < w6.heap.size := Nat.lt_trans (Nat.lt_trans (unhide z3) (unhide z5)) (Array.getElem?_eq_some_iff.1 q6).1
    refine (unhide CT L S5 I5 (by have := unhide HI2; have := unhide Hle3; have := unhide Hle5; have := unhide HK1; omega) _ (unhide L6)).mono ?_
    rintro e w7 ⟨rfl, S7, L7, B7, M7⟩
    have P7 := (B7.block _ z6 (unhide N5)).trans (unhide P6)
    have BX7 := hide ((unhide B6).trans B7 (unhide MX5))
    have N7 : ¬ S7 w.heap.size := fun h => by rcases M7 _ h with h | h; exact unhide N5 h; omega
    have MX7 : Hid (∀ k, S7 k → S k ∨ w.heap.size ≤ k) := hide fun k h => (M7 k h).elim (fun h => (unhide MX5 k h).imp_right (fun h2 => by have := (unhide b1).size; omega)) (fun h2 => .inr (by omega))
    have HL7 := hide (L7.kept (w' := w7.setRow w.heap.size (bc D3)) (fun k hk => setRow_other _ _ _ _ (fun e => N7 (by rw [← e]; exact hk))) (by rw [setRow_size]; exact Nat.le_refl _))
    clear z6 P6 q6 y6 CT B7 M7 L7 N7
    go_wp2_with (refine wpList_store_row rfl 23 (.tmp 8) (.tmp 35) rfl w.heap.size (bc D3) rfl rfl 23 _ P7 hi3 (unhide hz3) ho3 ?_)
    refine bodyPost_ret (results_cell_row rfl _ _ w.heap.size _ _ _ _ rfl (setRow_heap _ _ _ _ _ _ P7) Tryd.underlying23 rfl hi3) rfl ⟨rfl, S7, rnoted (rIn D1 D2) I5, unhide HL7, ?_, unhide MX7, ?_, ?_, ?_⟩
    · have r := unhide BX7
      have rb := unhide b1
      exact ⟨r.os.trans rb.os, r.tape.trans rb.tape, r.output.trans rb.output, by rw [setRow_size]; exact Nat.le_trans rb.size r.size, fun k hk hn => (setRow_other _ _ _ _ (by omega)).trans ((r.block k (Nat.lt_of_lt_of_le hk rb.size) hn).trans (rb.block k hk))⟩
    · exact fun s h => mem_rnoted_old _ _ _ (unhide Hmo5 s (unhide Hmo3 s h))
    · exact unhide HNt _ (mem_rnoted _ _) ((unhide Hnt3).mono (fun s h => mem_rnoted_old _ _ _ (unhide Hmo5 s h))) ((unhide Hnt5).mono (fun s h => mem_rnoted_old _ _ _ h))
    · have := rnoted_le (rIn D1 D2) I5
      have := unhide Hle3
      have := unhide Hle5
      have := unhide HCt
      have := unhide HK1
      omega
end Go.Proofs.YtonmccmeljeopaaDoor

namespace Go.Proofs.YtonmccmeljeopaaDoor
open Go Go.RowKit
set_option linter.unusedSimpArgs false
set_option linter.unusedVariables false

theorem DL_of_ownsD {B : Nat} {w : World} {t : TypeId} {v : Value} {n : Nat} (f : Nat → List UInt8) (hf : ∀ j, (f j).length = 32) (h : w.ownsRow B t 32 v n (Lib.byteCells ((List.range n).flatMap f))) : ∃ p c, v = .slice p n c ∧ n ≤ c ∧ DL w p ((List.range n).map f) := by
  obtain ⟨h1, h2⟩ := h
  rcases h2 with ⟨rfl, rfl⟩ | ⟨g, cap, cur, rfl, hB, hg, hc, hm, hs, ht⟩
  · exact ⟨none, 0, rfl, Nat.le_refl _, ⟨fun d hd => by simp at hd, fun hn => absurd rfl hn⟩⟩
  · refine ⟨_, cap, rfl, hc, ⟨fun d hd => ?_, fun hn => ⟨g, 0, rfl, (Array.getElem?_eq_some_iff.1 hg).1, fun i hi => ?_⟩⟩⟩
    · obtain ⟨j, _, rfl⟩ := List.mem_map.1 hd; exact hf j
    · have hi' : i < n := by simpa using hi
      intro j v hv
      rw [cell_of_row _ _ _ _ _ _ hg]
      have hj : j < 32 := by
        have := (List.getElem?_eq_some_iff.1 hv).1
        rw [Lib.byteCells_length] at this
        simpa [hi', hf] using this
      have e1 : cur[0 + i * 32 + j]? = (cur.toList.take (n * 32))[i * 32 + j]? := by
        rw [List.getElem?_take, if_pos (by omega), Array.getElem?_toList, Nat.zero_add]
      rw [e1, ht]
      have e2 := flat_at32 f hf n i hi'
      have e3 : ((List.range n).map f).getD i [] = f i := by simp [hi']
      rw [e3, ← e2] at hv
      rw [← hv]
      unfold Lib.byteCells
      rw [List.getElem?_map, List.getElem?_map, List.getElem?_take, if_pos hj, List.getElem?_drop]
theorem digRowInfoD : (Tryd.prog.info? 23).map (fun i => (i.size, i.bytes, i.zero.map (·.cells.size))) = some (32, 32, some 32) := by kernel_rfl
theorem flat_snocD (f : Nat → List UInt8) (k : Nat) : Lib.byteCells ((List.range (k + 1)).flatMap f) = Lib.byteCells ((List.range k).flatMap f) ++ (bc (f k)).toList := by
  rw [List.range_succ, List.flatMap_append]
  simp [Lib.byteCells, bc]
theorem wpList_append_rowD {P : Program} {ops : Array Oper} {rest : List Oper} {o : Oper} {a : Act} {Q : Exit → Act → World → Prop} (hgd : o.guard = none) (t e : TypeId) (sx x : Operand)
    (ho : o.op = .call { callee := .builtin .append, args := #[sx, x], argTypes := #[t, t] }) (s b : Nat) (hs : 0 < s) (hb2 : b ≤ 100000) (hu : P.underlying t = some (.slice e)) (hi : (P.info? e).map (fun i => (i.size, i.bytes, i.zero.map (·.cells.size))) = some (s, b, some s))
    (B : Nat) (v : Value) (n : Nat) (xs : List Value) (hv : a.eval sx = v) (wr : World) (hown : wr.ownsRow B e s v n xs) (hB : B ≤ wr.heap.size) (cs : Array Value) (hc : cs.size = s) (h1 : cs.all (·.oneCell') = true)
    (hx : a.eval x = .slice (some ⟨wr.heap.size, 0, none⟩) 1 1) (hlen : n + 1 ≤ 1048576)
    (h : ∀ v' w', w'.ownsRow B e s v' (n + 1) (xs ++ cs.toList) → Below B wr w' → (∀ k, k < wr.heap.size → some k ≠ v.ownBlock → w'.heap[k]? = wr.heap[k]?) → (v'.ownBlock = v.ownBlock ∨ ∃ g, v'.ownBlock = some g ∧ wr.heap.size ≤ g) → wpList P ops Q rest (a.put o.dst v') w') : wpList P ops Q (o :: rest) a (wr.alloc (.cells cs e)) := by
  obtain ⟨i, z, hie, hz, e1, e2, e3⟩ := rowInfo hi
  refine wpList_append_own_at _ hgd sx x t ho B e i z s b hu hie hz e1 e2 e3 hs v n xs hv (hown.alloc _) ⟨wr.heap.size, 0, none⟩ 1 1 cs.toList hx (by simp [hc]) ?_ ?_ (by unfold maxLen; omega) ?_ (by rw [World.size_alloc]; omega) ?_
  · intro j u hj
    rw [show (⟨wr.heap.size, 0, none⟩ : Addr).add j = ⟨wr.heap.size, j, none⟩ by unfold Addr.add; split <;> simp_all, cell_of_row _ _ _ _ _ _ (al1 wr (.cells cs e))]
    rw [← Array.getElem?_toList]; exact hj
  · intro u hu'
    exact Array.all_eq_true_iff_forall_mem.1 h1 u (Array.mem_toList_iff.1 hu')
  · exact Nat.le_trans (Nat.mul_le_mul hlen hb2) (by decide)
  · intro v' w' ho' hg _ hat
    have kept : ∀ k, k < wr.heap.size → some k ≠ v.ownBlock → w'.heap[k]? = wr.heap[k]? := fun k hk hn => (hg.block k (by rw [World.size_alloc]; omega) hn).trans (Below.heap_alloc wr _ k hk)
    refine h v' w' ho' ?_ kept (hat.imp_right (fun e => ⟨_, e, by rw [World.size_alloc]; omega⟩))
    have hA := (Below.refl B wr).alloc hB (.cells cs e)
    refine hA.trans ⟨hg.os, hg.tape, hg.output, hg.size, fun k hk => hg.block k (by rw [World.size_alloc]; omega) ?_⟩
    intro hc'
    have := (hown.lt k hc'.symm).1
    omega
end Go.Proofs.YtonmccmeljeopaaDoor
