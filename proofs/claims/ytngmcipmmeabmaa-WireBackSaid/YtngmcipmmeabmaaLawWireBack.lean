/-
  THE WALK OF THE LAW WireBack: whatever is written, one behind the other, is read as it was; it returns true, and nothing that was there has turned.
-/
import Derived.Test.YtngmcipmmeabmaaLawWireWrites
import Derived.Test.YtngmcipmmeabmaaLawWireOne
import Derived.Test.YtngmcipmmeabmaaWireBackP
import Derived.Test.YtngmcipmmeabmaaWireSame
namespace Go.Proofs.Ytngmcipmmeabmaa
open Go.RowKit
set_option linter.unusedSimpArgs false
set_option linter.unusedVariables false

/-- The boxes of a digest and a signature that were handed in. -/
def Boxes (B : Nat) (d : List UInt8) (cs : Array Value) (w : World) : Prop := w.heap[B]? = some (.cells (bc d) 24 (0, 0)) ∧ w.heap[B + 1]? = some (.cells cs 27 (0, 0))
theorem Boxes.lt {B : Nat} {d : List UInt8} {cs : Array Value} {w : World} (h : Boxes B d cs w) : B + 1 < w.heap.size := (Array.getElem?_eq_some_iff.1 h.2).1
theorem Boxes.below {B : Nat} {d : List UInt8} {cs : Array Value} {w w' : World} (h : Boxes B d cs w) (hb : Below w.heap.size w w') : Boxes B d cs w' :=
  ⟨Below.at hb (by have := h.lt; omega) h.1, Below.at hb h.lt h.2⟩
theorem Boxes.turned {B g : Nat} {d : List UInt8} {cs : Array Value} {w w' : World} (h : Boxes B d cs w) (ht : Turned g w w') (hg : B + 1 < g) : Boxes B d cs w' :=
  ⟨ht.row (by omega) h.1, ht.row (by omega) h.2⟩

theorem boxes_held {B : Nat} {d : List UInt8} {i : Int} {v1 v2 v3 : Value} {w' : World} (h : Boxes B d #[.int .i64 i, v1, v2, v3] w') : w'.rangeAt B 0 (Lib.byteCells d) ∧ w'.cell? ⟨B + 1, 0, none⟩ = some (.int .i64 i) ∧ w'.cell? ⟨B + 1, 1, none⟩ = some v1 ∧ w'.cell? ⟨B + 1, 2, none⟩ = some v2 ∧ w'.cell? ⟨B + 1, 3, none⟩ = some v3 :=
  ⟨fun j v hv => by rw [Nat.zero_add, cell_of_row _ _ _ _ _ _ h.1, bc, List.getElem?_toArray]; exact hv, (sig_cell h.2).1 0 _ rfl, (sig_cell h.2).1 1 _ rfl, (sig_cell h.2).1 2 _ rfl, (sig_cell h.2).1 3 _ rfl⟩
set_option maxHeartbeats 8000000 in
set_option maxRecDepth 100000 in
theorem wireBack_ok (n : Nat) (hn : n < 18446744073709551616) (d : List UInt8) (hd32 : d.length = 32) (l : List UInt8) (hl : l.length ≤ 5000) (i : Nat) (hi : i ≤ 2147483647) (p1 p2 p3 : Option Addr) (n1 n2 n3 c1 c2 c3 : Nat) (hn1 : n1 ≤ 32) (hn2 : n2 ≤ 32) (hn3 : n3 ≤ 32) (l1 l2 l3 rest : List UInt8) (hr : rest.length ≤ 5000) (w : World)
    (D1 : Digs w (.slice p1 n1 c1) l1) (D2 : Digs w (.slice p2 n2 c2) l2) (D3 : Digs w (.slice p3 n3 c3) l3) :
    Calls Try.prog 4 #[.int .u64 (n : Int), .agg (bc d), .string (str l), .agg #[.int .i64 (i : Int), .slice p1 n1 c1, .slice p2 n2 c2, .slice p3 n3 c3], .string (str rest)] w fun e w' => e = .returned (.bool true) ∧ Below w.heap.size w w' := by
  have hb0 := bel2 w (.cells (bc d) 24) (.cells #[.int .i64 (i : Int), .slice p1 n1 c1, .slice p2 n2 c2, .slice p3 n3 c3] 27)
  have z0 : ((w.alloc (.cells (bc d) 24)).alloc (.cells #[.int .i64 (i : Int), .slice p1 n1 c1, .slice p2 n2 c2, .slice p3 n3 c3] 27)).heap.size = w.heap.size + 1 + 1 := by simp
  have x0 : Boxes w.heap.size d #[.int .i64 (i : Int), .slice p1 n1 c1, .slice p2 n2 c2, .slice p3 n3 c3] ((w.alloc (.cells (bc d) 24)).alloc (.cells #[.int .i64 (i : Int), .slice p1 n1 c1, .slice p2 n2 c2, .slice p3 n3 c3] 27)) := al2 w (.cells (bc d) 24) (.cells #[.int .i64 (i : Int), .slice p1 n1 c1, .slice p2 n2 c2, .slice p3 n3 c3] 27)
  generalize hX0 : (w.alloc (.cells (bc d) 24)).alloc (.cells #[.int .i64 (i : Int), .slice p1 n1 c1, .slice p2 n2 c2, .slice p3 n3 c3] 27) = X0 at *
  have HX0 := hide hX0
  clear hX0
  have d1 : decide ((5000 : Int) < (l.length : Int)) = false := by simp; omega
  have d2 : decide ((5000 : Int) < (rest.length : Int)) = false := by simp; omega
  have d3 : decide ((32 : Int) < (n1 : Int)) = false := by simp; omega
  have d4 : decide ((32 : Int) < (n2 : Int)) = false := by simp; omega
  have d5 : decide ((32 : Int) < (n3 : Int)) = false := by simp; omega
  have d6 : decide ((i : Int) < 0) = false := by simp
  have d7 : decide ((2147483647 : Int) < (i : Int)) = false := by simp; omega
  go_enter Try.func4, Try.ntmps4
  go_wp2_with fail
  rw [unhide HX0]
  refine (wawake_calls _).mono ?_
  rintro en w1 ⟨rfl, hb1⟩
  have b1 := hb0.trans (hb1.mono hb0.size)
  have x1 := x0.below hb1
  have k0 := (sig_cell x1.2).1 0 _ rfl
  have k1 := (sig_cell x1.2).1 1 _ rfl
  have k2 := (sig_cell x1.2).1 2 _ rfl
  have k3 := (sig_cell x1.2).1 3 _ rfl
  have z1 := hb1.size
  have HX1 := hide x1
  clear hb0 hb1 x0 x1
  go_wp2_with fail
  have L1 : l1.length = 32 * n1 := by obtain ⟨_, _, _, h1, h2, _⟩ := D1; cases h1; exact h2
  have L2 : l2.length = 32 * n2 := by obtain ⟨_, _, _, h1, h2, _⟩ := D2; cases h1; exact h2
  have L3 : l3.length = 32 * n3 := by obtain ⟨_, _, _, h1, h2, _⟩ := D3; cases h1; exact h2
  have hrg : ∀ dd os, Below w.heap.size w (Sort.grow (redrawn w1 dd) os) := fun dd os => b1.trans ((below_regrown w1 dd os).mono b1.size)
  have hm1 : IntKind.u8.wrap (n : Int) = ((n % 256 : Nat) : Int) := by rw [IntKind.wrap_u8']; omega
  have hm4 : IntKind.u32.wrap (n : Int) = ((n % 4294967296 : Nat) : Int) := by rw [IntKind.wrap_u32']; omega
  have kL : Hid (∀ dd os, Calls Try.prog 12 #[.int .u64 (n : Int)] (Sort.grow (redrawn w1 dd) os) fun e w'' => e = .returned (.string (str (pBig n 8))) ∧ ∃ p : Regrown, w'' = Sort.grow (redrawn w1 p.d) p.os) := fun dd os => Calls.regrown_of (wlong_calls n _)
  have kD : Hid (∀ dd os, Calls Try.prog 13 #[.agg (bc d)] (Sort.grow (redrawn w1 dd) os) fun e w'' => e = .returned (.string (str d)) ∧ ∃ p : Regrown, w'' = Sort.grow (redrawn w1 p.d) p.os) := fun dd os => Calls.regrown_of (wdigest_calls d hd32 _)
  have kT : Hid (∀ dd os, Calls Try.prog 15 #[.string (str l)] (Sort.grow (redrawn w1 dd) os) fun e w'' => e = .returned (.string (str (pText4 l))) ∧ ∃ p : Regrown, w'' = Sort.grow (redrawn w1 p.d) p.os) := fun dd os => Calls.regrown_of (wtext_calls l (by omega) _)
  have kS : Hid (∀ dd os, Calls Try.prog 19 #[.agg #[.int .i64 (i : Int), .slice p1 n1 c1, .slice p2 n2 c2, .slice p3 n3 c3]] (Sort.grow (redrawn w1 dd) os) fun e w'' => e = .returned (.string (str (pSig (i : Int) l1 l2 l3))) ∧ ∃ p : Regrown, w'' = Sort.grow (redrawn w1 p.d) p.os) := fun dd os => Calls.regrown_of (wsig_calls (i : Int) _ _ _ l1 l2 l3 (by omega) (by omega) (by omega) _ (D1.below (hrg _ _)) (D2.below (hrg _ _)) (D3.below (hrg _ _)))
  have kB : Hid (∀ dd os, Calls Try.prog 9 #[.int .u8 (IntKind.u8.wrap (n : Int))] (Sort.grow (redrawn w1 dd) os) fun e w'' => e = .returned (.string (str (pBig (n % 256) 1))) ∧ ∃ p : Regrown, w'' = Sort.grow (redrawn w1 p.d) p.os) := fun dd os => Calls.regrown_of (by rw [hm1]; exact wbyte_calls (n % 256) (by omega) _)
  have kW : Hid (∀ dd os, Calls Try.prog 11 #[.int .u32 (IntKind.u32.wrap (n : Int))] (Sort.grow (redrawn w1 dd) os) fun e w'' => e = .returned (.string (str (pBig (n % 4294967296) 4))) ∧ ∃ p : Regrown, w'' = Sort.grow (redrawn w1 p.d) p.os) := fun dd os => Calls.regrown_of (by rw [hm4]; exact wword_calls (n % 4294967296) (by omega) _)
  have rowD : Hid (∀ w', (∃ p : Regrown, w' = Sort.grow (redrawn w1 p.d) p.os) → w'.heap[w.heap.size]? = some (.cells (bc d) 24 (0, 0))) := fun w' ⟨p, hp⟩ => by
    rw [hp]; exact ((unhide HX1).below (below_regrown w1 p.d p.os)).1
  have rowS : Hid (∀ w', (∃ p : Regrown, w' = Sort.grow (redrawn w1 p.d) p.os) → w'.heap[w.heap.size + 1]? = some (.cells #[.int .i64 (i : Int), .slice p1 n1 c1, .slice p2 n2 c2, .slice p3 n3 c3] 27 (0, 0))) := fun w' ⟨p, hp⟩ => by
    rw [hp]; exact ((unhide HX1).below (below_regrown w1 p.d p.os)).2
  have hiD : (Try.prog.info? 24).map (·.size) = some (bc d).size := by rw [bc_size, hd32]; kernel_rfl
  have hiS : (Try.prog.info? 27).map (·.size) = some (#[.int .i64 (i : Int), .slice p1 n1 c1, .slice p2 n2 c2, .slice p3 n3 c3] : Array Value).size := by show _ = some 4; kernel_rfl
  -- what is written, piece by piece
  have M0 := pBig_length n 8
  have M2 : (pText4 l).length = 4 + l.length := by rw [pText4, List.length_append, pBig_length]
  have M3 : (pSig (i : Int) l1 l2 l3).length = 16 + (l1.length + l2.length + l3.length) := by
    rw [pSig, List.length_append, List.length_append, List.length_append, pDigests_length, pDigests_length, pDigests_length, pBig_length]; omega
  have M4 := pBig_length (n % 256) 1
  have M5 := pBig_length (n % 4294967296) 4
  have rb0 := num_back n 8 (by show n < 18446744073709551616; exact hn)
  have rb1 := take_back d
  have rb2 := text_back l
  have rb3 := fun t => sig_back i hi l1 l2 l3 t n1 n2 n3 L1 L2 L3 hn1 hn2 hn3
  have rb4 := num_back (n % 256) 1 (by show n % 256 < 256; omega)
  have rb5 := num_back (n % 4294967296) 4 (by show n % 4294967296 < 4294967296; omega)
  generalize pBig n 8 = P0 at *
  generalize pText4 l = P2 at *
  generalize pSig (i : Int) l1 l2 l3 = P3 at *
  generalize pBig (n % 256) 1 = P4 at *
  generalize pBig (n % 4294967296) 4 = P5 at *
  have a1 := append_str P0 d
  have a2 : str (P0 ++ d) ++ str P2 = str (P0 ++ (d ++ P2)) := by rw [append_str]; simp
  have a3 : str (P0 ++ (d ++ P2)) ++ str P3 = str (P0 ++ (d ++ (P2 ++ P3))) := by rw [append_str]; simp
  have a4 : str (P0 ++ (d ++ (P2 ++ P3))) ++ str P4 = str (P0 ++ (d ++ (P2 ++ (P3 ++ P4)))) := by rw [append_str]; simp
  have a5 : str (P0 ++ (d ++ (P2 ++ (P3 ++ P4)))) ++ str P5 = str (P0 ++ (d ++ (P2 ++ (P3 ++ (P4 ++ P5))))) := by rw [append_str]; simp
  have a6 : str (P0 ++ (d ++ (P2 ++ (P3 ++ (P4 ++ P5))))) ++ str rest = str (P0 ++ (d ++ (P2 ++ (P3 ++ (P4 ++ (P5 ++ rest)))))) := by rw [append_str]; simp
  have s1 : ¬ 9223372036854775807 < P0.length + d.length := by omega
  have s2 : ¬ 9223372036854775807 < P0.length + d.length + P2.length := by omega
  have s3 : ¬ 9223372036854775807 < P0.length + (d.length + P2.length) + P3.length := by omega
  have s4 : ¬ 9223372036854775807 < P0.length + (d.length + (P2.length + P3.length)) + P4.length := by omega
  have s5 : ¬ 9223372036854775807 < P0.length + (d.length + (P2.length + (P3.length + P4.length))) + P5.length := by omega
  have s6 : ¬ 9223372036854775807 < P0.length + (d.length + (P2.length + (P3.length + (P4.length + P5.length)))) + rest.length := by omega
  have HM : Hid (P0.length + (d.length + (P2.length + (P3.length + (P4.length + (P5.length + rest.length))))) ≤ 100000) := by show _ ≤ _; omega
  have RB0 := hide rb0
  have RB1 := hide rb1
  have RB2 := hide rb2
  have RB3 := hide rb3
  have RB4 := hide rb4
  have RB5 := hide rb5
  have HM1 := hide hm1
  have HM4 := hide hm4
  have HD1 := hide D1
  have HD2 := hide D2
  have HD3 := hide D3
  have HB1 := hide b1
  have HL1 := hide L1
  have HL2 := hide L2
  have HL3 := hide L3
  have HDD := hide hd32
  clear rb0 rb1 rb2 rb3 rb4 rb5 hm1 hm4 D1 D2 D3 b1 L1 L2 L3 M0 M2 M3 M4 M5 hrg k0 k1 k2 k3 d1 d2 d3 d4 d5 d6 d7 hd32
  refine wp_region_below_tail 21 mixed (by kernel_rfl) ?_
  simp only [List.take_succ_cons, List.take_zero, List.drop_succ_cons, List.drop_zero]
  quiet_step (fail)
  quiet_step (exact unhide kL _ _)
  refine wpQuiet_load_row rfl 24 (.tmp 6) rfl w.heap.size rfl 24 _ (0, 0) _ (unhide rowD) Try.underlying24 rfl hiD ?_
  quiet_step (exact unhide kD _ _)
  quiet_step (fail)
  quiet_step (fail)
  quiet_step (exact unhide kT _ _)
  quiet_step (fail)
  refine wpQuiet_load_row rfl 27 (.tmp 8) rfl (w.heap.size + 1) rfl 27 _ (0, 0) _ (unhide rowS) Try.underlying27 rfl hiS ?_
  quiet_step (exact unhide kS _ _)
  quiet_step (fail)
  quiet_step (fail)
  quiet_step (fail)
  quiet_step (exact unhide kB _ _)
  quiet_step (fail)
  quiet_step (fail)
  quiet_step (fail)
  quiet_step (exact unhide kW _ _)
  quiet_step (fail)
  quiet_step (fail)
  quiet_step (fail)
  refine wpQuiet_nil ?_
  intro w2 hb2
  clear kL kD kT kS kB kW rowD rowS a1 a2 a3 a4 a5 a6 s1 s2 s3 s4 s5 s6
  go_wp2_with fail
  have z2 := hb2.size
  have x2 := (unhide HX1).below hb2
  have b2 := (unhide HB1).trans (hb2.mono (unhide HB1).size)
  refine (over_calls (P0 ++ (d ++ (P2 ++ (P3 ++ (P4 ++ (P5 ++ rest)))))) w2).mono ?_
  rintro en w3 ⟨rfl, r3, hb3⟩
  have x3 := x2.below hb3
  have b3 := b2.trans (hb3.mono b2.size)
  have hg : w.heap.size + 1 < w2.heap.size := x2.lt
  generalize w2.heap.size = g at *
  clear hb2 hb3 x2 b2 HX1 HB1
  have cL : Hid (∀ w3, RdAt w3 g ⟨P0 ++ (d ++ (P2 ++ (P3 ++ (P4 ++ (P5 ++ rest))))), 0⟩ → Boxes w.heap.size d #[.int .i64 (i : Int), .slice p1 n1 c1, .slice p2 n2 c2, .slice p3 n3 c3] w3 → Below w.heap.size w w3 → Calls Try.prog 22 #[.pointer (some ⟨g, 0, none⟩)] w3 fun e w' => e = .returned (.int .u64 (n : Int)) ∧ RdAt w' g ⟨(d ++ (P2 ++ (P3 ++ (P4 ++ (P5 ++ rest))))), 0⟩ ∧ Boxes w.heap.size d #[.int .i64 (i : Int), .slice p1 n1 c1, .slice p2 n2 c2, .slice p3 n3 c3] w' ∧ Below w.heap.size w w') := fun w3 h3 x3 b3 => by
    have hc := rlong_calls g ⟨P0 ++ (d ++ (P2 ++ (P3 ++ (P4 ++ (P5 ++ rest))))), 0⟩ (by show (P0 ++ (d ++ (P2 ++ (P3 ++ (P4 ++ (P5 ++ rest)))))).length ≤ _; simp only [List.length_append]; have := unhide HM; omega) w3 h3
    rw [unhide RB0 (d ++ (P2 ++ (P3 ++ (P4 ++ (P5 ++ rest)))))] at hc
    refine hc.mono ?_
    rintro e w' ⟨rfl, h', t'⟩
    exact ⟨rfl, h', x3.turned t' hg, t'.under b3 (by omega)⟩
  have cD : Hid (∀ w3, RdAt w3 g ⟨(d ++ (P2 ++ (P3 ++ (P4 ++ (P5 ++ rest))))), 0⟩ → Boxes w.heap.size d #[.int .i64 (i : Int), .slice p1 n1 c1, .slice p2 n2 c2, .slice p3 n3 c3] w3 → Below w.heap.size w w3 → Calls Try.prog 23 #[.pointer (some ⟨g, 0, none⟩)] w3 fun e w' => e = .returned (.agg (Lib.byteCells d).toArray) ∧ RdAt w' g ⟨(P2 ++ (P3 ++ (P4 ++ (P5 ++ rest)))), 0⟩ ∧ Boxes w.heap.size d #[.int .i64 (i : Int), .slice p1 n1 c1, .slice p2 n2 c2, .slice p3 n3 c3] w' ∧ Below w.heap.size w w') := fun w3 h3 x3 b3 => by
    have hc := rdigest_calls g ⟨(d ++ (P2 ++ (P3 ++ (P4 ++ (P5 ++ rest))))), 0⟩ (by show (d ++ (P2 ++ (P3 ++ (P4 ++ (P5 ++ rest))))).length ≤ _; simp only [List.length_append]; have := unhide HM; omega) w3 h3
    rw [unhide RB1 (P2 ++ (P3 ++ (P4 ++ (P5 ++ rest)))) 32 (unhide HDD)] at hc
    have ep : pad32 d = d := by rw [pad32, unhide HDD]; simp
    simp only [ep] at hc
    refine hc.mono ?_
    rintro e w' ⟨rfl, h', t'⟩
    exact ⟨rfl, h', x3.turned t' hg, t'.under b3 (by omega)⟩
  have cT : Hid (∀ w3, RdAt w3 g ⟨(P2 ++ (P3 ++ (P4 ++ (P5 ++ rest)))), 0⟩ → Boxes w.heap.size d #[.int .i64 (i : Int), .slice p1 n1 c1, .slice p2 n2 c2, .slice p3 n3 c3] w3 → Below w.heap.size w w3 → Calls Try.prog 24 #[.pointer (some ⟨g, 0, none⟩), .int .i64 (l.length : Int)] w3 fun e w' => e = .returned (.string (str l)) ∧ RdAt w' g ⟨(P3 ++ (P4 ++ (P5 ++ rest))), 0⟩ ∧ Boxes w.heap.size d #[.int .i64 (i : Int), .slice p1 n1 c1, .slice p2 n2 c2, .slice p3 n3 c3] w' ∧ Below w.heap.size w w') := fun w3 h3 x3 b3 => by
    have hc := rdtext_calls g ⟨(P2 ++ (P3 ++ (P4 ++ (P5 ++ rest)))), 0⟩ (by show (P2 ++ (P3 ++ (P4 ++ (P5 ++ rest)))).length ≤ _; simp only [List.length_append]; have := unhide HM; omega) (l.length : Int) w3 h3
    rw [unhide RB2 (P3 ++ (P4 ++ (P5 ++ rest))) (by omega)] at hc
    refine hc.mono ?_
    rintro e w' ⟨rfl, h', t'⟩
    exact ⟨rfl, h', x3.turned t' hg, t'.under b3 (by omega)⟩
  have cS : Hid (∀ w3, RdAt w3 g ⟨(P3 ++ (P4 ++ (P5 ++ rest))), 0⟩ → Boxes w.heap.size d #[.int .i64 (i : Int), .slice p1 n1 c1, .slice p2 n2 c2, .slice p3 n3 c3] w3 → Below w.heap.size w w3 → Calls Try.prog 26 #[.pointer (some ⟨g, 0, none⟩)] w3 fun e w' => ∃ q1 m1 k1 q2 m2 k2 q3 m3 k3, e = .returned (.agg #[.int .i64 (i : Int), .slice q1 m1 k1, .slice q2 m2 k2, .slice q3 m3 k3]) ∧ Digs w' (.slice q1 m1 k1) l1 ∧ Digs w' (.slice q2 m2 k2) l2 ∧ Digs w' (.slice q3 m3 k3) l3 ∧ RdAt w' g ⟨(P4 ++ (P5 ++ rest)), 0⟩ ∧ Boxes w.heap.size d #[.int .i64 (i : Int), .slice p1 n1 c1, .slice p2 n2 c2, .slice p3 n3 c3] w' ∧ Below w.heap.size w w') := fun w3 h3 x3 b3 => by
    have hc := rsig_calls g ⟨(P3 ++ (P4 ++ (P5 ++ rest))), 0⟩ (by show (P3 ++ (P4 ++ (P5 ++ rest))).length ≤ _; simp only [List.length_append]; have := unhide HM; omega) w3 h3
    obtain ⟨e0, e1, e2, e3⟩ := unhide RB3 (P4 ++ (P5 ++ rest))
    rw [e0, e1, e2, e3] at hc
    refine hc.mono ?_
    rintro e w' ⟨v, rfl, h', t', _, hgood⟩
    obtain ⟨v1, v2, v3, rfl, E1, E2, E3⟩ := hgood rfl
    obtain ⟨q1, m1, k1, rfl, _⟩ := id E1
    obtain ⟨q2, m2, k2, rfl, _⟩ := id E2
    obtain ⟨q3, m3, k3, rfl, _⟩ := id E3
    exact ⟨q1, m1, k1, q2, m2, k2, q3, m3, k3, rfl, E1, E2, E3, h', x3.turned t' hg, t'.under b3 (by omega)⟩
  have cE : Hid (∀ w3 q1 m1 k1 q2 m2 k2 q3 m3 k3, Digs w3 (.slice q1 m1 k1) l1 → Digs w3 (.slice q2 m2 k2) l2 → Digs w3 (.slice q3 m3 k3) l3 → RdAt w3 g ⟨(P4 ++ (P5 ++ rest)), 0⟩ → Boxes w.heap.size d #[.int .i64 (i : Int), .slice p1 n1 c1, .slice p2 n2 c2, .slice p3 n3 c3] w3 → Below w.heap.size w w3 → Calls Try.prog 25 #[.agg #[.int .i64 (i : Int), .slice q1 m1 k1, .slice q2 m2 k2, .slice q3 m3 k3], .agg #[.int .i64 (i : Int), .slice p1 n1 c1, .slice p2 n2 c2, .slice p3 n3 c3]] w3 fun e w' => e = .returned (.bool true) ∧ RdAt w' g ⟨(P4 ++ (P5 ++ rest)), 0⟩ ∧ Boxes w.heap.size d #[.int .i64 (i : Int), .slice p1 n1 c1, .slice p2 n2 c2, .slice p3 n3 c3] w' ∧ Below w.heap.size w w') := fun w3 q1 m1 k1 q2 m2 k2 q3 m3 k3 E1 E2 E3 h3 x3 b3 => by
    have := unhide HL1
    have := unhide HL2
    have := unhide HL3
    refine (sameSig_calls (i : Int) q1 q2 q3 p1 p2 p3 m1 m2 m3 k1 k2 k3 n1 n2 n3 c1 c2 c3 l1 l2 l3 (by omega) (by omega) (by omega) w3 E1 E2 E3 ((unhide HD1).below b3) ((unhide HD2).below b3) ((unhide HD3).below b3)).mono ?_
    rintro e w' ⟨rfl, hb⟩
    exact ⟨rfl, h3.below hb, x3.below hb, b3.trans (hb.mono b3.size)⟩
  have cB : Hid (∀ w3, RdAt w3 g ⟨(P4 ++ (P5 ++ rest)), 0⟩ → Boxes w.heap.size d #[.int .i64 (i : Int), .slice p1 n1 c1, .slice p2 n2 c2, .slice p3 n3 c3] w3 → Below w.heap.size w w3 → Calls Try.prog 27 #[.pointer (some ⟨g, 0, none⟩)] w3 fun e w' => e = .returned (.int .u8 (IntKind.u8.wrap (n : Int))) ∧ RdAt w' g ⟨(P5 ++ rest), 0⟩ ∧ Boxes w.heap.size d #[.int .i64 (i : Int), .slice p1 n1 c1, .slice p2 n2 c2, .slice p3 n3 c3] w' ∧ Below w.heap.size w w') := fun w3 h3 x3 b3 => by
    have hc := rbyte_calls g ⟨(P4 ++ (P5 ++ rest)), 0⟩ (by show (P4 ++ (P5 ++ rest)).length ≤ _; simp only [List.length_append]; have := unhide HM; omega) w3 h3
    rw [unhide RB4 (P5 ++ rest)] at hc
    refine hc.mono ?_
    rintro e w' ⟨rfl, h', t'⟩
    exact ⟨by rw [unhide HM1], h', x3.turned t' hg, t'.under b3 (by omega)⟩
  have cW : Hid (∀ w3, RdAt w3 g ⟨(P5 ++ rest), 0⟩ → Boxes w.heap.size d #[.int .i64 (i : Int), .slice p1 n1 c1, .slice p2 n2 c2, .slice p3 n3 c3] w3 → Below w.heap.size w w3 → Calls Try.prog 28 #[.pointer (some ⟨g, 0, none⟩)] w3 fun e w' => e = .returned (.int .u32 (IntKind.u32.wrap (n : Int))) ∧ RdAt w' g ⟨rest, 0⟩ ∧ Boxes w.heap.size d #[.int .i64 (i : Int), .slice p1 n1 c1, .slice p2 n2 c2, .slice p3 n3 c3] w' ∧ Below w.heap.size w w') := fun w3 h3 x3 b3 => by
    have hc := rword_calls g ⟨(P5 ++ rest), 0⟩ (by show (P5 ++ rest).length ≤ _; simp only [List.length_append]; have := unhide HM; omega) w3 h3
    rw [unhide RB5 rest] at hc
    refine hc.mono ?_
    rintro e w' ⟨rfl, h', t'⟩
    exact ⟨by rw [unhide HM4], h', x3.turned t' hg, t'.under b3 (by omega)⟩
  have eqd : ∀ w, (binOp .eql 24 (.agg (Lib.byteCells d).toArray) (.agg (Lib.byteCells d).toArray)).run Try.prog w = .ok (.bool true) w := digest_eql d (unhide HDD)
  have eqd2 : ∀ w, (Op.equalIn 10000 24 (.agg (Lib.byteCells d).toArray) (.agg (Lib.byteCells d).toArray)).run Try.prog w = .ok true w := digest_equal d (unhide HDD)
  have u24 := Try.underlying24
  have hil : (Try.prog.info? 24).map (·.size) = some (Lib.byteCells d).length := by rw [Lib.byteCells_length, unhide HDD]; kernel_rfl
  clear HM RB0 RB1 RB2 RB3 RB4 RB5 HM1 HM4 HD1 HD2 HD3 HL1 HL2 HL3 HDD hiD hiS hg
  go_wp2_with fail
  go_region_held3 (fun w' => w'.rangeAt w.heap.size 0 (Lib.byteCells d) ∧ w'.cell? ⟨w.heap.size + 1, 0, none⟩ = some (.int .i64 (i : Int)) ∧ w'.cell? ⟨w.heap.size + 1, 1, none⟩ = some (.slice p1 n1 c1) ∧ w'.cell? ⟨w.heap.size + 1, 2, none⟩ = some (.slice p2 n2 c2) ∧ w'.cell? ⟨w.heap.size + 1, 3, none⟩ = some (.slice p3 n3 c3)) (exact boxes_held (by assumption))
    (first
      | (go_at_call 22; refine (unhide cL _ ?_ ?_ ?_).mono ?_; (iterate 3 (first | assumption | exact Below.drew (by assumption))); rintro e wa ⟨rfl, ra, xa, ba⟩)
      | (go_at_call 23; refine (unhide cD _ ?_ ?_ ?_).mono ?_; (iterate 3 (first | assumption | exact Below.drew (by assumption))); rintro e wb ⟨rfl, rb, xb, bb⟩)
      | (go_at_call 24; refine (unhide cT _ ?_ ?_ ?_).mono ?_; (iterate 3 (first | assumption | exact Below.drew (by assumption))); rintro e wc ⟨rfl, rc, xc, bc'⟩)
      | (go_at_call 26; refine (unhide cS _ ?_ ?_ ?_).mono ?_; (iterate 3 (first | assumption | exact Below.drew (by assumption))); rintro e wd ⟨q1, m1, k1, q2, m2, k2, q3, m3, k3, rfl, E1, E2, E3, rd, xd, bd⟩)
      | (go_at_call 25; refine (unhide cE _ _ _ _ _ _ _ _ _ _ ?_ ?_ ?_ ?_ ?_ ?_).mono ?_; (iterate 6 (first | assumption | exact Below.drew (by assumption))); rintro e we ⟨rfl, re, xe, be⟩)
      | (go_at_call 27; refine (unhide cB _ ?_ ?_ ?_).mono ?_; (iterate 3 (first | assumption | exact Below.drew (by assumption))); rintro e wf ⟨rfl, rf, xf, bf⟩)
      | (go_at_call 28; refine (unhide cW _ ?_ ?_ ?_).mono ?_; (iterate 3 (first | assumption | exact Below.drew (by assumption))); rintro e wg ⟨rfl, rg, xg, bg⟩))
  have RG := hide rg
  have BG := hide bg
  clear ra xa ba rb xb bb rc xc bc' rd xd bd re xe be rf xf bf xg rg bg E1 E2 E3 cL cD cT cS cE cB cW eqd eqd2 u24 hil
  by_cases hr0 : rest = []
  · subst hr0
    rw [show str [] = (⟨#[]⟩ : ByteArray) from rfl]
    go_wp2_with fail
    refine (wawake_calls _).mono ?_
    rintro en w5 ⟨rfl, hb5⟩
    have r5 := (unhide RG).below hb5
    have b5 := (unhide BG).trans (hb5.mono (unhide BG).size)
    clear hb5 RG BG
    go_wp2_with fail
    refine (left_calls g _ _ r5).mono ?_
    rintro en w6 ⟨rfl, rfl⟩
    go_wp2_with fail
    refine (rend_calls g _ _ r5).mono ?_
    rintro en w7 ⟨rfl, rfl⟩
    rw [show (⟨[], 0⟩ : Rd).end' = 0 from rfl]
    clear r5
    go_wp2
    go_ret
    exact ⟨rfl, b5⟩
  · have hne : (str rest).toList.isEmpty = false := by rw [ByteArray.toList_eq, str_toList]; cases hl : rest with | nil => exact absurd hl hr0 | cons _ _ => rfl
    have he : (⟨rest, 0⟩ : Rd).end' = 4 := by simp [Rd.end', hr0]
    go_wp2_with fail
    refine (wawake_calls _).mono ?_
    rintro en w5 ⟨rfl, hb5⟩
    have r5 := (unhide RG).below hb5
    have b5 := (unhide BG).trans (hb5.mono (unhide BG).size)
    clear hb5 RG BG
    go_wp2_with fail
    refine (left_calls g _ _ r5).mono ?_
    rintro en w6 ⟨rfl, rfl⟩
    go_wp2_with fail
    refine (rend_calls g _ _ r5).mono ?_
    rintro en w7 ⟨rfl, rfl⟩
    rw [he]
    clear r5 he
    go_wp2
    go_ret
    exact ⟨rfl, b5⟩
set_option maxHeartbeats 4000000 in
set_option maxRecDepth 100000 in
theorem wireBack_walk (n : Nat) (hn : n < 18446744073709551616) (d : List UInt8) (hd32 : d.length = 32) (l : List UInt8) (hl : l.length ≤ maxLen) (i : Int) (p1 p2 p3 : Option Addr) (n1 n2 n3 c1 c2 c3 : Nat) (l1 l2 l3 rest : List UInt8) (hr : rest.length ≤ maxLen) (w : World)
    (D1 : Digs w (.slice p1 n1 c1) l1) (D2 : Digs w (.slice p2 n2 c2) l2) (D3 : Digs w (.slice p3 n3 c3) l3) :
    Calls Try.prog 4 #[.int .u64 (n : Int), .agg (bc d), .string (str l), .agg #[.int .i64 i, .slice p1 n1 c1, .slice p2 n2 c2, .slice p3 n3 c3], .string (str rest)] w fun e w' => e = .returned (.bool true) ∧ Below w.heap.size w w' := by
  unfold maxLen at hl hr
  by_cases hok : l.length ≤ 5000 ∧ rest.length ≤ 5000 ∧ n1 ≤ 32 ∧ n2 ≤ 32 ∧ n3 ≤ 32 ∧ 0 ≤ i ∧ i ≤ 2147483647
  · obtain ⟨j, rfl⟩ := Int.eq_ofNat_of_zero_le hok.2.2.2.2.2.1
    exact wireBack_ok n hn d hd32 l hok.1 j (by omega) p1 p2 p3 n1 n2 n3 c1 c2 c3 hok.2.2.1 hok.2.2.2.1 hok.2.2.2.2.1 l1 l2 l3 rest hok.2.1 w D1 D2 D3
  · have hb0 := bel2 w (.cells (bc d) 24) (.cells #[.int .i64 i, .slice p1 n1 c1, .slice p2 n2 c2, .slice p3 n3 c3] 27)
    have x0 : Boxes w.heap.size d #[.int .i64 i, .slice p1 n1 c1, .slice p2 n2 c2, .slice p3 n3 c3] ((w.alloc (.cells (bc d) 24)).alloc (.cells #[.int .i64 i, .slice p1 n1 c1, .slice p2 n2 c2, .slice p3 n3 c3] 27)) := al2 w (.cells (bc d) 24) (.cells #[.int .i64 i, .slice p1 n1 c1, .slice p2 n2 c2, .slice p3 n3 c3] 27)
    generalize hX0 : (w.alloc (.cells (bc d) 24)).alloc (.cells #[.int .i64 i, .slice p1 n1 c1, .slice p2 n2 c2, .slice p3 n3 c3] 27) = X0 at *
    have HX0 := hide hX0
    clear hX0 D1 D2 D3
    have hds : Hid ((decide ((5000 : Int) < (l.length : Int)) || decide ((5000 : Int) < (rest.length : Int)) || decide ((32 : Int) < (n1 : Int)) || decide ((32 : Int) < (n2 : Int)) || decide ((32 : Int) < (n3 : Int)) || decide (i < 0) || decide ((2147483647 : Int) < i)) = true) := by
      show _ = true
      simp only [Bool.or_eq_true, decide_eq_true_eq]
      omega
    clear hok
    go_enter Try.func4, Try.ntmps4
    go_wp2_with fail
    rw [unhide HX0]
    refine (wawake_calls _).mono ?_
    rintro en w1 ⟨rfl, hb1⟩
    have b1 := hb0.trans (hb1.mono hb0.size)
    have x1 := x0.below hb1
    have k0 := (sig_cell x1.2).1 0 _ rfl
    have k1 := (sig_cell x1.2).1 1 _ rfl
    have k2 := (sig_cell x1.2).1 2 _ rfl
    have k3 := (sig_cell x1.2).1 3 _ rfl
    clear hb0 hb1 x0 x1
    cases d1 : decide ((5000 : Int) < (l.length : Int)) with
    | true =>
      go_wp2_with fail
      refine (wawake_calls _).mono ?_
      rintro en w2 ⟨rfl, hb2⟩
      go_wp2
      go_ret
      exact ⟨rfl, b1.trans (hb2.mono b1.size)⟩
    | false =>
    cases d2 : decide ((5000 : Int) < (rest.length : Int)) with
    | true =>
      go_wp2_with fail
      refine (wawake_calls _).mono ?_
      rintro en w2 ⟨rfl, hb2⟩
      go_wp2
      go_ret
      exact ⟨rfl, b1.trans (hb2.mono b1.size)⟩
    | false =>
    cases d3 : decide ((32 : Int) < (n1 : Int)) with
    | true =>
      go_wp2_with fail
      refine (wawake_calls _).mono ?_
      rintro en w2 ⟨rfl, hb2⟩
      go_wp2
      go_ret
      exact ⟨rfl, b1.trans (hb2.mono b1.size)⟩
    | false =>
    cases d4 : decide ((32 : Int) < (n2 : Int)) with
    | true =>
      go_wp2_with fail
      refine (wawake_calls _).mono ?_
      rintro en w2 ⟨rfl, hb2⟩
      go_wp2
      go_ret
      exact ⟨rfl, b1.trans (hb2.mono b1.size)⟩
    | false =>
    cases d5 : decide ((32 : Int) < (n3 : Int)) with
    | true =>
      go_wp2_with fail
      refine (wawake_calls _).mono ?_
      rintro en w2 ⟨rfl, hb2⟩
      go_wp2
      go_ret
      exact ⟨rfl, b1.trans (hb2.mono b1.size)⟩
    | false =>
    cases d6 : decide (i < 0) with
    | true =>
      go_wp2_with fail
      refine (wawake_calls _).mono ?_
      rintro en w2 ⟨rfl, hb2⟩
      go_wp2
      go_ret
      exact ⟨rfl, b1.trans (hb2.mono b1.size)⟩
    | false =>
    have d7 : decide ((2147483647 : Int) < i) = true := by
      have := unhide hds
      rw [d1, d2, d3, d4, d5, d6] at this
      simpa using this
    go_wp2_with fail
    refine (wawake_calls _).mono ?_
    rintro en w2 ⟨rfl, hb2⟩
    go_wp2
    go_ret
    exact ⟨rfl, b1.trans (hb2.mono b1.size)⟩
end Go.Proofs.Ytngmcipmmeabmaa
