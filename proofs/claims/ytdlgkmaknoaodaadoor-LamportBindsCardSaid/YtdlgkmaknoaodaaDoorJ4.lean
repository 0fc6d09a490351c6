/-
  THE DOCUMENT's Secret AND Public (layer 5) WITH ITS LOG.
-/
/-
  THE DOCUMENT's Word (layer 5) WITH ITS LOG.
-/
/-
  THE DOCUMENT's Bit (layer 5); a part of a row loaded under a guard.
-/
/-
  A NEW LIST OF DIGESTS, ALL NOUGHTS.
-/
/-
  WHAT lamport's Sign RETURNS, where there is no log.
-/
/-
  A PART OF A ROW LOADED INSIDE A REGION THAT DRAWS ITS ORDER, as a step of the quiet walk. Over whatever program.
-/
/-
  WHAT lamport's Opened RETURNS of thirty-two of each, where there is no log.
-/
/-
  THE DOCUMENT's Opened (layer 5) WITH ITS LOG.
-/
/-
  BYTES STORED INTO A BLOCK THAT WAS JUST MADE: the world behind it is a letter of which all is known.
-/
/-
  WHAT THE LAWS OF LAYER 5 LEAN ON: equality of digests; what is signed is opened to the key's word; the chapter's example.
-/
/-
  UNLIKE DOMAINS OR PARTS HAVE UNLIKE INPUTS.
-/
/-
  WHAT A LOG WITHOUT A CLASH SAYS OF A KEY's WORD AND OF WHAT IS OPENED.
-/
import Derived.Test.YtdlgkmaknoaodaaDoorJ2
import Derived.Test.YtdlgkmaknoaodaaDoorJ3
import Derived.Deep.DeepCutAuto
import Derived.Test.YtdlgkmaknoaodaaDoorJ1
import Derived.Deep.MidRow
import Derived.Test.YtdlgkmaknoaodaaDoorJ0
import Derived.Laws.StructEq
namespace Go.Proofs.YtdlgkmaknoaodaaDoor
open Go Go.RowKit
set_option linter.unusedSimpArgs false
set_option linter.unusedVariables false

theorem pBig4_mod (n m : Nat) (h : n % 4294967296 = m) : pBig n 4 = pBig m 4 := by
  subst h
  unfold pBig
  refine List.map_congr_left fun i hi => ?_
  have hi4 : i < 4 := List.mem_range.1 hi
  apply UInt8.toNat_inj.1
  rw [UInt8.toNat_ofNat', UInt8.toNat_ofNat']
  match i, hi4 with
  | 0, _ => simp; omega
  | 1, _ => simp; omega
  | 2, _ => simp; omega
  | 3, _ => simp
/-- What Secret and Public note. -/
def sIn (seed : List UInt8) (index i b : Nat) : List UInt8 := pInput 1 [seed, pBig index 4, pBig i 1, pBig b 1]
def uIn (s : List UInt8) : List UInt8 := pInput 2 [s]
set_option maxHeartbeats 2000000 in
set_option maxRecDepth 100000 in
theorem rpublicQ_calls (s : List UInt8) (hs : s.length = 32) (L : Nat) (S : Nat → Prop) (ins : List (List UInt8)) (hin : ins.length < 1099511627776) (w : World) (hL : RLogAt w L S ins) :
    Calls Tryd.prog 15 #[.pointer (some ⟨L, 0, none⟩), .agg (bc s)] w fun e w' => e = .returned (.agg (bc (pPublic s))) ∧ RStep L S (rnoted (uIn s) ins) w w' := by
  have co := fun g w hs hl => rofQ_calls 2 (by decide) [s] (by simp; omega) (by simp) (some ⟨g, 0, none⟩) 1 L S ins hin w hs hl
  have hi0 := digInfo s hs
  have hi1 := digInfo (pPublic s) (pPublic_length s)
  have hz1 := zeroSize (pPublic s) (pPublic_length s)
  have ho1 := bc_oneCell (pPublic s)
  have cd := fun w => rbytes_calls s hs w
  have e2 : pOf 2 [s] = pPublic s := rfl
  have e3 : pInput 2 [s] = uIn s := rfl
  rw [e2, e3] at co
  generalize uIn s = IN at *
  generalize pPublic s = D at *
  have CO := hide co
  have CD := hide cd
  have HL := hide hL
  have HOLD := hide hL.old
  clear co cd e2 e3 hL
  go_enter Tryd.func15, Tryd.ntmps15
  go_wp2_with (refine wpList_load_row rfl 23 (.tmp 3) rfl w.heap.size rfl 23 _ (0, 0) _ ((Below.heap_alloc _ _ _ (by simp)).trans (al1 w (.cells (bc s) 23))) Tryd.underlying23 rfl hi0 ?_)
  have hb0 : Below w.heap.size w ((w.alloc (.cells (bc s) 23)).alloc (.cells (bc (List.replicate 32 0)) 23)) := ((Below.refl _ w).alloc (Nat.le_refl _) _).alloc (by simp) _
  have q0 : ((w.alloc (.cells (bc s) 23)).alloc (.cells (bc (List.replicate 32 0)) 23)).heap[w.heap.size + 1]? = some (.cells (bc (List.replicate 32 0)) 23 (0, 0)) := by
    have := al1 (w.alloc (.cells (bc s) 23)) (.cells (bc (List.replicate 32 0)) 23); rwa [World.size_alloc] at this
  refine (unhide CD _).mono ?_
  rintro e w1 ⟨rfl, b1⟩
  have q1 := Below.at b1 (by simp) q0
  have hb1 : Below w.heap.size w w1 := hb0.trans (b1.mono (by simp; omega))
  have z1 : w.heap.size + 1 < w1.heap.size := by have := b1.size; simp at this; omega
  clear hb0 b1 q0
  go_wp2_with fail
  have hb2 : Below w.heap.size w (w1.alloc (.cells #[.string (str s)] 9)) := hb1.alloc (by omega) _
  have HB2 := hide hb2
  refine (unhide CO _ _ (strsAt_one w1 s _) ((unhide HL).below hb2)).mono ?_
  rintro e w2 ⟨rfl, hst⟩
  have HST := hide hst
  obtain ⟨S', k1, k2, k3⟩ := hst
  have q2 := (k2.block (w.heap.size + 1) (by rw [World.size_alloc]; omega) (fun h => by have := unhide HOLD _ h; omega)).trans ((Below.heap_alloc w1 (.cells #[.string (str s)] 9) _ z1).trans q1)
  have Z1 := hide z1
  clear q1 hb1 hb2 k1 k2 k3
  go_wp2_with (refine wpList_store_row rfl 23 (.tmp 4) (.tmp 9) rfl (w.heap.size + 1) _ rfl rfl 23 _ q2 hi1 hz1 ho1 ?_)
  exact bodyPost_ret (results_cell_row rfl _ _ (w.heap.size + 1) _ _ _ _ rfl (setRow_heap _ _ _ _ _ _ q2) Tryd.underlying23 rfl hi1) rfl ⟨rfl, setRow_step (unhide HB2) (unhide HST) (unhide HOLD) (w.heap.size + 1) (by omega) (by rw [World.size_alloc]; have := unhide Z1; omega) _⟩
set_option maxHeartbeats 2000000 in
set_option maxRecDepth 100000 in
theorem rsecretQ_calls (seed : List UInt8) (hs : seed.length = 32) (x : Int) (index i b : Nat) (hx : x % 4294967296 = (index : Int)) (hi : i < 256) (hb : b < 256) (L : Nat) (S : Nat → Prop) (ins : List (List UInt8)) (hin : ins.length < 1099511627776) (w : World) (hL : RLogAt w L S ins) :
    Calls Tryd.prog 11 #[.pointer (some ⟨L, 0, none⟩), .agg (bc seed), .int .i64 x, .int .i64 (i : Int), .int .i64 (b : Int)] w fun e w' => e = .returned (.agg (bc (pSecret seed index i b))) ∧ RStep L S (rnoted (sIn seed index i b) ins) w w' := by
  obtain ⟨n, hn⟩ : ∃ n : Nat, x % 18446744073709551616 = (n : Int) := ⟨(x % 18446744073709551616).toNat, by omega⟩
  have hw : IntKind.u64.wrap x = (n : Int) := by rw [IntKind.wrap_u64]; exact hn
  have hwi : IntKind.u64.wrap (i : Int) = (i : Int) := by rw [IntKind.wrap_u64]; omega
  have hwb : IntKind.u64.wrap (b : Int) = (b : Int) := by rw [IntKind.wrap_u64]; omega
  have hni : pBig n 4 = pBig index 4 := pBig4_mod n index (by omega)
  have co := fun g w hs hl => rofQ_calls 1 (by decide) [seed, pBig index 4, pBig i 1, pBig b 1] (by simp [pBig_length]; omega) (by simp) (some ⟨g, 0, none⟩) 4 L S ins hin w hs hl
  have hi0 := digInfo seed hs
  have hi1 := digInfo (pSecret seed index i b) (pSecret_length _ _ _ _)
  have hz1 := zeroSize (pSecret seed index i b) (pSecret_length _ _ _ _)
  have ho1 := bc_oneCell (pSecret seed index i b)
  have cd := fun w => rbytes_calls seed hs w
  have c1 := fun w => rbig_calls n 4 (by omega) (by decide) (by decide) w
  have c2 := fun w => rbig_calls i 1 (by omega) (by decide) (by decide) w
  have c3 := fun w => rbig_calls b 1 (by omega) (by decide) (by decide) w
  rw [hni] at c1
  have e2 : pOf 1 [seed, pBig index 4, pBig i 1, pBig b 1] = pSecret seed index i b := rfl
  have e3 : pInput 1 [seed, pBig index 4, pBig i 1, pBig b 1] = sIn seed index i b := rfl
  rw [e2, e3] at co
  generalize sIn seed index i b = IN at *
  generalize pSecret seed index i b = D at *
  generalize pBig index 4 = p1 at *
  generalize pBig i 1 = p2 at *
  generalize pBig b 1 = p3 at *
  have CO := hide co
  have CD := hide cd
  have C1 := hide c1
  have C2 := hide c2
  have C3 := hide c3
  have HL := hide hL
  have HOLD := hide hL.old
  clear co cd c1 c2 c3 e2 e3 hL hni hn hx
  go_enter Tryd.func11, Tryd.ntmps11
  go_wp2_with (refine wpList_load_row rfl 23 (.tmp 6) rfl w.heap.size rfl 23 _ (0, 0) _ ((Below.heap_alloc _ _ _ (by simp)).trans (al1 w (.cells (bc seed) 23))) Tryd.underlying23 rfl hi0 ?_)
  have hb0 : Below w.heap.size w ((w.alloc (.cells (bc seed) 23)).alloc (.cells (bc (List.replicate 32 0)) 23)) := ((Below.refl _ w).alloc (Nat.le_refl _) _).alloc (by simp) _
  have q0 : ((w.alloc (.cells (bc seed) 23)).alloc (.cells (bc (List.replicate 32 0)) 23)).heap[w.heap.size + 1]? = some (.cells (bc (List.replicate 32 0)) 23 (0, 0)) := by
    have := al1 (w.alloc (.cells (bc seed) 23)) (.cells (bc (List.replicate 32 0)) 23); rwa [World.size_alloc] at this
  refine (unhide CD _).mono ?_
  rintro e w1 ⟨rfl, b1⟩
  have q1 := Below.at b1 (by simp) q0
  have hb1 : Below w.heap.size w w1 := hb0.trans (b1.mono (by simp; omega))
  have z1 : w.heap.size + 1 < w1.heap.size := by have := b1.size; simp at this; omega
  clear hb0 b1 q0
  go_wp2_with fail
  refine (unhide C1 _).mono ?_
  rintro e w2 ⟨rfl, b2⟩
  have q2 := Below.at b2 z1 q1
  have hb2 : Below w.heap.size w w2 := hb1.trans (b2.mono (by omega))
  have z2 : w.heap.size + 1 < w2.heap.size := Nat.lt_of_lt_of_le z1 b2.size
  clear hb1 b2 q1 z1
  go_wp2_with fail
  refine (unhide C2 _).mono ?_
  rintro e w3 ⟨rfl, b3⟩
  have q3 := Below.at b3 z2 q2
  have hb3 : Below w.heap.size w w3 := hb2.trans (b3.mono (by omega))
  have z3 : w.heap.size + 1 < w3.heap.size := Nat.lt_of_lt_of_le z2 b3.size
  clear hb2 b3 q2 z2
  go_wp2_with fail
  refine (unhide C3 _).mono ?_
  rintro e w4 ⟨rfl, b4⟩
  have q4 := Below.at b4 z3 q3
  have hb4 : Below w.heap.size w w4 := hb3.trans (b4.mono (by omega))
  have z4 : w.heap.size + 1 < w4.heap.size := Nat.lt_of_lt_of_le z3 b4.size
  clear hb3 b4 q3 z3
  go_wp2_with fail
  have hb5 : Below w.heap.size w (w4.alloc (.cells #[.string (str seed), .string (str p1), .string (str p2), .string (str p3)] 9)) := hb4.alloc (by omega) _
  have HB5 := hide hb5
  refine (unhide CO _ _ (strsAt_four w4 seed p1 p2 p3 _) ((unhide HL).below hb5)).mono ?_
  rintro e w5 ⟨rfl, hst⟩
  have HST := hide hst
  obtain ⟨S', k1, k2, k3⟩ := hst
  have q5 := (k2.block (w.heap.size + 1) (by rw [World.size_alloc]; omega) (fun h => by have := unhide HOLD _ h; omega)).trans ((Below.heap_alloc w4 (.cells #[.string (str seed), .string (str p1), .string (str p2), .string (str p3)] 9) _ z4).trans q4)
  have Z4 := hide z4
  clear q4 hb4 hb5 k1 k2 k3
  go_wp2_with (refine wpList_store_row rfl 23 (.tmp 10) (.tmp 24) rfl (w.heap.size + 1) _ rfl rfl 23 _ q5 hi1 hz1 ho1 ?_)
  exact bodyPost_ret (results_cell_row rfl _ _ (w.heap.size + 1) _ _ _ _ rfl (setRow_heap _ _ _ _ _ _ q5) Tryd.underlying23 rfl hi1) rfl ⟨rfl, setRow_step (unhide HB5) (unhide HST) (unhide HOLD) (w.heap.size + 1) (by omega) (by rw [World.size_alloc]; have := unhide Z4; omega) _⟩
end Go.Proofs.YtdlgkmaknoaodaaDoor

namespace Go.Proofs.YtdlgkmaknoaodaaDoor
open Go Go.RowKit
set_option linter.unusedSimpArgs false
set_option linter.unusedVariables false

theorem Row.kept {B : Nat} {l : List UInt8} {v : Value} {w w' : World} (h : Row B l v w) (hk : ∀ k, v.ownBlock = some k → w'.heap[k]? = w.heap[k]?) : Row B l v w' := owns_at h hk
theorem Row.lt {B : Nat} {l : List UInt8} {v : Value} {w : World} (h : Row B l v w) : ∀ k, v.ownBlock = some k → B ≤ k ∧ k < w.heap.size := World.ownsRow.lt h
theorem Row.below {B : Nat} {l : List UInt8} {v : Value} {w w' : World} (h : Row B l v w) (hb : Below w.heap.size w w') : Row B l v w' := h.kept fun k e => hb.block k (h.lt k e).2
theorem Row.step {B : Nat} {l : List UInt8} {v : Value} {w w' : World} {L : Nat} {S : Nat → Prop} {ins : List (List UInt8)} (h : Row B l v w) (hs : RStep L S ins w w') (ho : ∀ k, v.ownBlock = some k → ¬ S k) : Row B l v w' := by
  obtain ⟨_, _, k2, _⟩ := hs
  exact h.kept fun k e => k2.block k (h.lt k e).2 (ho k e)
/-- The inputs of a key's secrets and publics. -/
def WNoted (seed : List UInt8) (index m : Nat) (J : List (List UInt8)) : Prop := ∀ j, j < m → sIn seed index (j / 2) (j % 2) ∈ J ∧ uIn (pSecret seed index (j / 2) (j % 2)) ∈ J
def wIn (l : List UInt8) : List UInt8 := pInput 3 [l]
set_option maxHeartbeats 4000000 in
set_option maxRecDepth 100000 in
theorem rwordQ_calls (seed : List UInt8) (hs : seed.length = 32) (x : Int) (index : Nat) (hx : x % 4294967296 = (index : Int)) (L : Nat) (S : Nat → Prop) (I : List (List UInt8)) (hI : I.length ≤ 1000000) (w : World) (hL : RLogAt w L S I) :
    Calls Tryd.prog 17 #[.pointer (some ⟨L, 0, none⟩), .agg (bc seed), .int .i64 x] w fun e w' => e = .returned (.agg (bc (pWord seed index))) ∧ QS L S I 129 (fun J => WNoted seed index 64 J ∧ wIn (pubs seed index 64) ∈ J) w w' := by
  have hW : (pWord seed index).length = 32 := pOf_length _ _
  have hi1 := digInfo (pWord seed index) hW
  have hz1 := zeroSize (pWord seed index) hW
  have ho1 := bc_oneCell (pWord seed index)
  have hi0 := digInfo seed hs
  have CO := hide (fun S ins hin g w hs hl => rofQ_calls 3 (by decide) [pubs seed index 64] (by simp [pubs_length]) (by simp) (some ⟨g, 0, none⟩) 1 L S ins hin w hs hl)
  have e1 : pOf 3 [pubs seed index 64] = pWord seed index := rfl
  have e3 : pInput 3 [pubs seed index 64] = wIn (pubs seed index 64) := rfl
  rw [e1, e3] at CO
  obtain ⟨WI, hWI⟩ : ∃ y, wIn (pubs seed index 64) = y := ⟨_, rfl⟩
  rw [hWI] at CO ⊢
  clear hWI
  have CS := hide fun i b hi hb S ins hin w hl => rsecretQ_calls seed hs x index i b hx hi hb L S ins hin w hl
  have CP := hide fun i b S ins hin w hl => rpublicQ_calls (pSecret seed index i b) (pSecret_length _ _ _ _) L S ins hin w hl
  have CD := hide fun i b w => rbytes_calls (pPublic (pSecret seed index i b)) (pPublic_length _) w
  have HSucc := hide (pubs_succ seed index)
  have HLen := hide (pubs_length seed index)
  generalize pWord seed index = D at *
  obtain ⟨q0, q1⟩ := al2 w (.cells (bc seed) 23) (.cells (bc (List.replicate 32 0)) 23)
  have b0 := bel2 w (.cells (bc seed) 23) (.cells (bc (List.replicate 32 0)) 23)
  have sX : ((w.alloc (.cells (bc seed) 23)).alloc (.cells (bc (List.replicate 32 0)) 23)).heap.size = w.heap.size + 1 + 1 := by simp
  obtain ⟨X, hX⟩ : ∃ X, (w.alloc (.cells (bc seed) 23)).alloc (.cells (bc (List.replicate 32 0)) 23) = X := ⟨_, rfl⟩
  rw [hX] at q0 q1 b0 sX
  have HX := hide hX
  have SX := hide sX
  have LX := hide (hL.below b0)
  have HOLD := hide hL.old
  have HN0 : Hid (¬ S w.heap.size) := hide fun h => by have := hL.old _ h; omega
  have HN1 : Hid (¬ S (w.heap.size + 1)) := hide fun h => by have := hL.old _ h; omega
  have B0 := hide b0
  have Q0 := hide q0
  have Q1 := hide q1
  have HII := hide hI
  clear e1 e3 hX sX b0 q0 q1 hL hI hs hx
  go_enter Tryd.func17, Tryd.ntmps17
  go_upto_region 2 with fail
  change Code.wp _ _ _ _ ((w.alloc (.cells (bc seed) 23)).alloc (.cells (bc (List.replicate 32 0)) 23))
  rw [unhide HX]
  go_wp2
  go_loopw [7, 8, 9] (fun v i _ wr => ∃ (k : Nat) (S' : Nat → Prop) (I' : List (List UInt8)), k ≤ 32 ∧ i = .int .i64 (k : Int) ∧ Hid (Row X.heap.size (pubs seed index (2 * k)) v wr) ∧ Hid (LS X L S I (4 * k) (WNoted seed index (2 * k)) v.ownBlock wr S' I')) (fun _ i _ _ => 32 - (intOf i).toNat)
  case atStart => exact ⟨0, S, I, by omega, rfl, hide (World.ownsRow_nil _ _ _ _), hide (LS.start (unhide LX) (fun j hj => absurd hj (Nat.not_lt_zero _)))⟩
  case round =>
    obtain ⟨k, S1, I1, hk, rfl, hrow, hls⟩ := hrel
    by_cases hlt : k < 32
    · have hd1 : decide ((k : Int) < 32) = true := by simp; omega
      have HK := hide hlt
      clear hlt
      go_wp2
      go_loopw [7, 9] (fun v b wq => ∃ (j : Nat) (S' : Nat → Prop) (I' : List (List UInt8)), j ≤ 2 ∧ b = .int .i64 (j : Int) ∧ Hid (Row X.heap.size (pubs seed index (2 * k + j)) v wq) ∧ Hid (LS X L S I (2 * (2 * k + j)) (WNoted seed index (2 * k + j)) v.ownBlock wq S' I')) (fun _ b _ => 2 - (intOf b).toNat)
      case atStart => exact ⟨0, S1, I1, by omega, rfl, hrow, hide ((unhide hls).mono (by omega) (fun h => h))⟩
      case round =>
        obtain ⟨j, S2, I2, hj, rfl, hrow2, hls2⟩ := hrel
        by_cases hlt2 : j < 2
        · have hd2 : decide ((j : Int) < 2) = true := by simp; omega
          have HJ := hide hlt2
          have qs := (unhide hls2).at (unhide Q0) (unhide HN0)
          have hn2 : Hid (I2.length < 1099511627000) := hide (by have := (unhide hls2).2.2.2.2.2.2; have := unhide HII; have := unhide HK; omega)
          have cs := hide fun W hl => unhide CS k j (by have := unhide HK; omega) (by omega) S2 I2 (by have := unhide hn2; omega) W hl
          have cp := hide fun S3 W hl => unhide CP k j S3 (rnoted (sIn seed index k j) I2) (by have := rnoted_le (sIn seed index k j) I2; have := unhide hn2; omega) W hl
          have cd := hide fun W => unhide CD k j W
          have hdiv : Hid ((2 * k + j) / 2 = k ∧ (2 * k + j) % 2 = j) := hide (by omega)
          have hsucc : Hid (pubs seed index (2 * k + (j + 1)) = pubs seed index (2 * k + j) ++ pPublic (pSecret seed index k j)) := hide (by
            rw [show 2 * k + (j + 1) = 2 * k + j + 1 by omega, unhide HSucc]; unfold pubAt; rw [(unhide hdiv).1, (unhide hdiv).2])
          have hlen := hide (unhide HLen (2 * k + j))
          have hnew : Hid (∀ J J', WNoted seed index (2 * k + j) J → (∀ s ∈ J, s ∈ J') → sIn seed index k j ∈ J' → uIn (pSecret seed index k j) ∈ J' → WNoted seed index (2 * k + (j + 1)) J') := hide fun J J' h hm h1 h2 m hm2 => by
            by_cases e : m = 2 * k + j
            · rw [e, (unhide hdiv).1, (unhide hdiv).2]; exact ⟨h1, h2⟩
            · have := h m (by omega)
              exact ⟨hm _ this.1, hm _ this.2⟩
          have hPl : (pPublic (pSecret seed index k j)).length = 32 := pPublic_length _
          have HPl := hide hPl
          obtain ⟨SI, hSI⟩ : ∃ y, sIn seed index k j = y := ⟨_, rfl⟩
          obtain ⟨UI, hUI⟩ : ∃ y, uIn (pSecret seed index k j) = y := ⟨_, rfl⟩
          rw [hSI] at cs cp hnew
          rw [hUI] at cp hnew
          generalize pPublic (pSecret seed index k j) = PD at *
          generalize pSecret seed index k j = SD at *
          clear hlt2 hSI hUI hPl
          go_wp2_with (refine wpList_load_row rfl 23 (.tmp 4) rfl w.heap.size rfl 23 _ (0, 0) _ qs Tryd.underlying23 rfl hi0 ?_)
          refine (unhide cs _ (unhide hls2).1).mono ?_
          rintro e w1 ⟨rfl, st1⟩
          have r1 := hide ((unhide hrow2).step st1 (unhide hls2).2.2.2.1)
          obtain ⟨S3, l3⟩ := (unhide hls2).step (P' := fun J => WNoted seed index (2 * k + j) I2 ∧ (∀ s ∈ I2, s ∈ J) ∧ SI ∈ J) st1 (fun k e => ((unhide hrow2).lt k e).2) (fun h => ⟨h, fun s hs => mem_rnoted_old _ _ _ hs, mem_rnoted _ _⟩)
          have L3 := hide l3
          clear st1 l3 qs
          go_wp2_with fail
          refine (unhide cp S3 _ (unhide L3).1).mono ?_
          rintro e w2 ⟨rfl, st2⟩
          have r2 := hide ((unhide r1).step st2 (unhide L3).2.2.2.1)
          obtain ⟨S4, l4⟩ := (unhide L3).step (P' := WNoted seed index (2 * k + (j + 1))) st2 (fun k e => ((unhide r1).lt k e).2) (fun h => unhide hnew I2 _ h.1 (fun s hs => mem_rnoted_old _ _ _ (h.2.1 s hs)) (mem_rnoted_old _ _ _ h.2.2) (mem_rnoted _ _))
          have L4 := hide l4
          clear st2 l4
          go_wp2_with fail
          refine (unhide cd _).mono ?_
          rintro e w3 ⟨rfl, b3⟩
          have r3 := hide ((unhide r2).below b3)
          have L5 := hide ((unhide L4).below b3)
          clear b3
          go_wp2_with (at_builtin; (refine wpList_append_at rfl (.tmp 18) (.tmp 27) rfl X.heap.size (pubs seed index (2 * k + j)) u7 rfl PD (unhide r3) (unhide L5).2.1.size rfl (by have := unhide hlen; have := unhide HPl; have := unhide HK; have := unhide HJ; omega) ?_); intro v' w4 r4 g4 a4)
          have L6 := hide ((unhide L5).grow (v := u7) (v' := v') (fun k e => ((unhide r3).lt k e).1) g4 a4)
          have R4 := hide r4
          clear r4 g4 a4
          go_roundw
          case rel => exact ⟨j + 1, S4, _, by have := unhide HJ; omega, by go_num, by rw [unhide hsucc]; exact R4, hide ((unhide L6).mono (by omega) (fun h => h))⟩
          case measure => have := unhide HJ; simp [intOf]; omega
        · have hd2 : decide ((j : Int) < 2) = false := by simp; omega
          have hj2 : j = 2 := by omega
          subst hj2
          clear hlt2
          go_wp2
          go_roundw
          case rel => exact ⟨k + 1, S2, I2, by have := unhide HK; omega, by go_num, by rw [show 2 * (k + 1) = 2 * k + 2 by omega]; exact hrow2, hide (by rw [show 2 * (k + 1) = 2 * k + 2 by omega]; exact (unhide hls2).mono (by omega) (fun h => h))⟩
          case measure => have := unhide HK; simp [intOf]; omega
    · have hd1 : decide ((k : Int) < 32) = false := by simp; omega
      have hk32 : k = 32 := by omega
      subst hk32
      have hcv := (unhide hrow).convert
      have q1 := (unhide hls).at (unhide Q1) (unhide HN1)
      have z1 := (Array.getElem?_eq_some_iff.1 q1).1
      have hn2 : I1.length < 1099511627000 := by have := (unhide hls).2.2.2.2.2.2; have := unhide HII; omega
      have co := hide fun g W hs hl => unhide CO S1 I1 (by omega) g W hs hl
      have L1 := hide ((unhide hls).below ((Below.refl _ wr).alloc (Nat.le_refl _) (.cells #[.string (str (pubs seed index 64))] 9)))
      have hno : Hid (∀ J, WNoted seed index (2 * 32) J → WNoted seed index 64 J) := hide fun J h => h
      generalize pubs seed index 64 = LL at *
      have hcv2 : (convert 69 9 u7).run Tryd.prog wr = .ok (.string (str LL)) wr := hcv
      clear hn2 hcv hrow hlt
      go_wp2_with fail
      refine (unhide co _ _ (strsAt_one wr LL _) (unhide L1).1).mono ?_
      rintro e w3 ⟨rfl, st3⟩
      have q3 : w3.heap[w.heap.size + 1]? = some (.cells (bc (List.replicate 32 0)) 23 (0, 0)) := by
        obtain ⟨_, _, k2, _⟩ := st3
        exact (k2.block (w.heap.size + 1) (by rw [World.size_alloc]; omega) (fun h => ((unhide L1).2.2.1 _ h).elim (unhide HN1) (fun h2 => by have := unhide SX; omega))).trans ((Below.heap_alloc wr (.cells #[.string (str LL)] 9) _ z1).trans q1)
      obtain ⟨S5, l5⟩ := (LS.forget (unhide L1)).step (P' := fun J => WNoted seed index 64 J ∧ WI ∈ J) st3 (fun k e => by cases e) (fun h => ⟨fun j hj => ⟨mem_rnoted_old _ _ _ (h j hj).1, mem_rnoted_old _ _ _ (h j hj).2⟩, mem_rnoted _ _⟩)
      have L5 := hide l5
      clear st3 l5 q1 hcv2
      go_wp2_with (refine wpList_store_row rfl 23 (.tmp 6) (.tmp 33) rfl (w.heap.size + 1) _ rfl rfl 23 _ q3 hi1 hz1 ho1 ?_)
      exact bodyPost_ret (results_cell_row rfl _ _ (w.heap.size + 1) _ _ _ _ rfl (setRow_heap _ _ _ _ _ _ q3) Tryd.underlying23 rfl hi1) rfl ⟨rfl, ((unhide L5).mono (by omega) (fun h => h)).close_row (unhide B0) (unhide HOLD) (w.heap.size + 1) (by omega) (by have := unhide SX; omega) _⟩
end Go.Proofs.YtdlgkmaknoaodaaDoor

namespace Go.Proofs.YtdlgkmaknoaodaaDoor
open Go Go.RowKit
set_option linter.unusedSimpArgs false
set_option linter.unusedVariables false

theorem wpList_load_mid_gv {P : Program} {ops : Array Oper} {rest : List Oper} {o : Oper} {a : Act} {w : World} {Q : Exit → Act → World → Prop} (hw : Region.wanted o (yielded ops a.tmps) = true) (ty : TypeId) (x : Operand) (ho : o.op = .load ty x)
    (b off : Nat) (hx : a.eval x = .pointer (some ⟨b, off, none⟩)) (cs : List Value) (d : TypeDesc) (hc : w.rangeAt b off cs)
    (hu : P.underlying ty = some d) (hd : d.isRow = true) (hi : (P.info? ty).map (·.size) = some cs.length)
    (h : wpList P ops Q rest (a.put o.dst (.agg cs.toArray)) w) : wpList P ops Q (o :: rest) a w :=
  wpList_step fun K hK => by
    rw [if_pos hw]
    exact wp_load_mid ty x ho b off hx cs d hc hu hd hi (hK _ _ h)
set_option maxHeartbeats 2000000 in
set_option maxRecDepth 100000 in
theorem rbit_calls (d : List UInt8) (hd : d.length = 32) (i : Nat) (hi : i < 256) (w : World) :
    Calls Tryd.prog 13 #[.agg (bc d), .int .i64 (i : Int)] w fun e w' => e = .returned (.int .i64 ((pBit d i : Nat) : Int)) ∧ Below w.heap.size w w' := by
  have hq : i / 8 < 32 := by omega
  have hr : i % 8 < 8 := by omega
  have e1 : (i : Int).tdiv 8 = ((i / 8 : Nat) : Int) := by
    rw [Int.tdiv_eq_ediv_of_nonneg (by omega)]; rfl
  have e2 : (i : Int).tmod 8 = ((i % 8 : Nat) : Int) := by
    rw [Int.tmod_eq_emod_of_nonneg (by omega)]; rfl
  have g0 : decide ((i : Int) < 0) = false := by simp
  have g1 : decide ((255 : Int) < (i : Int)) = false := by simp; omega
  have hc : (w.alloc (.cells (bc d) 23)).cell? ⟨w.heap.size, i / 8, none⟩ = some (.int .u8 ((d.getD (i / 8) 0).toNat : Int)) := by
    rw [cell_of_row _ _ _ _ _ _ (al1 w (.cells (bc d) 23)), bc_at _ _ (by omega)]
  unfold pBit
  have hv := (d.getD (i / 8) 0).toNat_lt
  generalize (d.getD (i / 8) 0).toNat = v at *
  generalize i / 8 = q at *
  generalize i % 8 = r at *
  obtain ⟨s, es⟩ : ∃ s : Nat, Hid (7 - r = s) := ⟨_, hide rfl⟩
  have e3 : (7 : Int) - (r : Int) = (s : Int) := by have := unhide es; omega
  rw [unhide es]
  have hs : s < 8 := by have := unhide es; omega
  have hv8 : v < 256 := by omega
  have b0 := (Below.refl w.heap.size w).alloc (Nat.le_refl _) (.cells (bc d) 23)
  clear es hv
  go_enter Tryd.func13, Tryd.ntmps13
  go_wp2
  go_loopw [5, 6] (fun n k wr => ∃ kk : Nat, kk ≤ s ∧ k = .int .i64 (kk : Int) ∧ n = .int .i64 ((v / 2 ^ kk : Nat) : Int) ∧ Below w.heap.size w wr) (fun _ k _ => s - (intOf k).toNat)
  case atStart => exact ⟨0, by omega, rfl, by simp, b0⟩
  case round =>
    obtain ⟨kk, hk, rfl, rfl, hb⟩ := hrel
    have hvk : v / 2 ^ kk ≤ v := Nat.div_le_self _ _
    have hst : v / 2 ^ (kk + 1) = v / 2 ^ kk / 2 := by rw [Nat.pow_succ, Nat.div_div_eq_div_mul]
    by_cases hlt : kk < s
    · have hd1 : decide ((kk : Int) < (s : Int)) = true := by simp; omega
      have hd2 : decide (kk < s) = true := by simp; omega
      have HS := hide hst
      generalize v / 2 ^ kk = V at *
      have e5 : (V : Int).tdiv 2 = ((V / 2 : Nat) : Int) := by
        rw [Int.tdiv_eq_ediv_of_nonneg (by omega)]; rfl
      rw [← unhide HS] at e5
      obtain ⟨V2, hV2⟩ : ∃ V2, v / 2 ^ (kk + 1) = V2 := ⟨_, rfl⟩
      have HV2 := hide hV2
      have hb2 : V2 < 256 := by rw [hV2] at hst; omega
      rw [hV2] at e5
      clear hst hV2
      go_wp2
      go_roundw
      case rel => exact ⟨kk + 1, by omega, by go_num, by rw [unhide HV2], hb⟩
      case measure => simp [intOf]; omega
    · have hd1 : decide ((kk : Int) < (s : Int)) = false := by simp; omega
      have hd2 : decide (kk < s) = false := by simp; omega
      have hks : kk = s := by omega
      subst hks
      clear hst
      obtain ⟨V, hV⟩ : ∃ V, v / 2 ^ kk = V := ⟨_, rfl⟩
      have HV := hide hV
      rw [hV] at hvk ⊢
      clear hV
      have e5 : (V : Int).tmod 2 = ((V % 2 : Nat) : Int) := by
        rw [Int.tmod_eq_emod_of_nonneg (by omega)]; rfl
      go_wp2
      go_ret
      refine ⟨?_, hb⟩
      rw [unhide HV]
      rfl
end Go.Proofs.YtdlgkmaknoaodaaDoor

namespace Go.Proofs.YtdlgkmaknoaodaaDoor
open Go.RowKit
set_option linter.unusedSimpArgs false
set_option linter.unusedVariables false

theorem repl_getD (n j : Nat) (h : j < n) : (List.replicate n (0 : UInt8)).getD j 0 = 0 := by
  rw [List.getD_eq_getElem?_getD, List.getElem?_replicate, if_pos h]; rfl
/-- A new list of digests, all noughts. -/
theorem make_digests (n : Nat) (h : n ≤ 4294967296) (w : World) : (Instr.makeSlice 37 (.int .i64 (n : Int)) (.int .i64 (n : Int))).run Tryd.prog w = .ok (.slice (some ⟨w.heap.size, 0, none⟩) n n) (w.alloc (.cells (bc (List.replicate (32 * n) 0)) 23)) := by
  obtain ⟨i, hi⟩ : ∃ i, Tryd.prog.info? 23 = some i := by
    cases hq : Tryd.prog.info? 23 with
    | none => exact absurd hq (by rw [show Tryd.prog.info? 23 = some ((Tryd.prog.info? 23).getD default) by kernel_rfl]; simp)
    | some i => exact ⟨i, rfl⟩
  have e : (Tryd.prog.info? 23).map (fun i => (i.zero, i.size, i.bytes)) = some (some (.agg (bc (List.replicate 32 0))), 32, 32) := by kernel_rfl
  rw [hi] at e
  simp only [Option.map_some, Option.some.injEq, Prod.mk.injEq] at e
  obtain ⟨e1, e2, e3⟩ := e
  have := run_make (P := Tryd.prog) w 37 23 i (.agg (bc (List.replicate 32 0))) Tryd.underlying37 hi e1 .i64 .i64 n n (by omega) (by omega) (by rw [e3]; omega) (by omega)
  rw [this, e2]
  simp only [Int.toNat_natCast]
  rw [show (Value.agg (bc (List.replicate 32 0))).cells = bc (List.replicate 32 0) from rfl]
  have em : madeCells (bc (List.replicate 32 0)) (n * 32) = bc (List.replicate (32 * n) 0) := by
    apply Array.ext
    · simp [size_madeCells]; omega
    · intro j h1 h2
      have hz : ∀ r, r < 32 → (bc (List.replicate 32 0))[r]! = Value.int .u8 0 := fun r hr => by
        have hb := bc_at (List.replicate 32 0) r (by simpa using hr)
        rw [getElem!_def, hb, repl_getD 32 r hr]; rfl
      have h2' : j < 32 * n := by simpa using h2
      have hb2 := bc_at (List.replicate (32 * n) 0) j (by simpa using h2')
      have e2 : (bc (List.replicate (32 * n) 0))[j] = Value.int .u8 0 := by
        rw [Array.getElem?_eq_getElem h2] at hb2
        rw [Option.some.inj hb2, repl_getD (32 * n) j h2']; rfl
      rw [e2]
      simp only [madeCells, Array.getElem_map, Array.getElem_range]
      exact hz _ (by rw [bc_size, List.length_replicate]; omega)
  rw [em]

end Go.Proofs.YtdlgkmaknoaodaaDoor

namespace Go.Proofs.YtdlgkmaknoaodaaDoor
open Go Go.RowKit
set_option linter.unusedSimpArgs false
set_option linter.unusedVariables false

def partAt (seed : List UInt8) (index : Nat) (d : List UInt8) (i : Nat) : List UInt8 := pSecret seed index i (pBit d i)
def otherAt (seed : List UInt8) (index : Nat) (d : List UInt8) (i : Nat) : List UInt8 := pPublic (pSecret seed index i (1 - pBit d i))
def pParts (seed : List UInt8) (index : Nat) (d : List UInt8) (k : Nat) : List UInt8 := (List.range k).flatMap (partAt seed index d)
def pOthers (seed : List UInt8) (index : Nat) (d : List UInt8) (k : Nat) : List UInt8 := (List.range k).flatMap (otherAt seed index d)
theorem pParts_length (seed : List UInt8) (index : Nat) (d : List UInt8) (k : Nat) : (pParts seed index d k).length = 32 * k := flat32 _ (fun j => pSecret_length _ _ _ _) k
theorem pOthers_length (seed : List UInt8) (index : Nat) (d : List UInt8) (k : Nat) : (pOthers seed index d k).length = 32 * k := flat32 _ (fun j => pPublic_length _) k
theorem flat_put (f : Nat → List UInt8) (hf : ∀ j, (f j).length = 32) (k : Nat) (hk : k < 32) : putAt ((List.range k).flatMap f ++ List.replicate (1024 - 32 * k) 0) (k * 32) (f k) = (List.range (k + 1)).flatMap f ++ List.replicate (1024 - 32 * (k + 1)) 0 := by
  rw [putAt_zeros _ _ _ _ (by rw [flat32 f hf]; omega) (by rw [hf]; omega), hf, List.range_succ, List.flatMap_append]
  rw [show 1024 - 32 * k - 32 = 1024 - 32 * (k + 1) by omega]
  simp
set_option maxHeartbeats 4000000 in
set_option maxRecDepth 100000 in
theorem sign_calls (seed : List UInt8) (hs : seed.length = 32) (d : List UInt8) (hd : d.length = 32) (x : Int) (index : Nat) (hx : x % 4294967296 = (index : Int)) (w : World) (tabs : Tabs w) :
    Calls Tryd.prog 18 #[.pointer none, .agg (bc seed), .int .i64 x, .agg (bc d)] w fun e w' => ∃ g : Nat, w.heap.size ≤ g ∧ e = .returned (.tuple #[.slice (some ⟨g, 0, none⟩) 32 32, .slice (some ⟨g + 1, 0, none⟩) 32 32]) ∧ Below w.heap.size w w' ∧ w'.heap[g]? = some (.cells (bc (pParts seed index d 32)) 23 (0, 0)) ∧ w'.heap[g + 1]? = some (.cells (bc (pOthers seed index d 32)) 23 (0, 0)) := by
  have hi0 := digInfo seed hs
  have hi1 := digInfo d hd
  have cS := fun i b hi hb w tabs => secret_calls seed hs x index i b hx hi hb w tabs
  have cB := fun i hi w => bit_calls d hd i hi w
  have HPut := hide (flat_put (partAt seed index d) (fun j => pSecret_length _ _ _ _))
  have HPuo := hide (flat_put (otherAt seed index d) (fun j => pPublic_length _))
  have mk : ∀ w, (Instr.makeSlice 37 (.int .i64 32) (.int .i64 32)).run Tryd.prog w = .ok (.slice (some ⟨w.heap.size, 0, none⟩) 32 32) (w.alloc (.cells (bc (List.replicate (32 * 32) 0)) 23)) := fun w => make_digests 32 (by omega) w
  have HT := hide tabs
  have CS := hide cS
  have CB := hide cB
  have hA := al2 w (.cells (bc seed) 23) (.cells (bc d) 23)
  have hbA := bel2 w (.cells (bc seed) 23) (.cells (bc d) 23)
  have hsX : ((w.alloc (.cells (bc seed) 23)).alloc (.cells (bc d) 23)).heap.size = w.heap.size + 1 + 1 := by simp
  have hA2 := al2 ((w.alloc (.cells (bc seed) 23)).alloc (.cells (bc d) 23)) (.cells (bc (List.replicate (32 * 32) 0)) 23) (.cells (bc (List.replicate (32 * 32) 0)) 23)
  have hbA2 := bel2 ((w.alloc (.cells (bc seed) 23)).alloc (.cells (bc d) 23)) (.cells (bc (List.replicate (32 * 32) 0)) 23) (.cells (bc (List.replicate (32 * 32) 0)) 23)
  rw [hsX] at hA2 hbA2
  have HA := hide hA
  have HbA := hide hbA
  have HA2 := hide hA2
  have HbA2 := hide hbA2
  clear tabs cS cB hA hbA hsX hA2 hbA2
  go_enter Tryd.func18, Tryd.ntmps18
  go_wp2
  go_loopw [12, 13, 16] (fun _ _ i wr => ∃ k : Nat, k ≤ 32 ∧ i = .int .i64 (k : Int) ∧ wr.heap[w.heap.size + 1 + 1]? = some (.cells (bc (pParts seed index d k ++ List.replicate (1024 - 32 * k) 0)) 23 (0, 0)) ∧ wr.heap[w.heap.size + 1 + 1 + 1]? = some (.cells (bc (pOthers seed index d k ++ List.replicate (1024 - 32 * k) 0)) 23 (0, 0)) ∧ Below (w.heap.size + 1 + 1) ((w.alloc (.cells (bc seed) 23)).alloc (.cells (bc d) 23)) wr) (fun _ _ i _ => 32 - (intOf i).toNat)
  case atStart => exact ⟨0, by omega, rfl, (unhide HA2).1, (unhide HA2).2, unhide HbA2⟩
  case round =>
    clear HA2 HbA2 mk
    obtain ⟨k, hk, rfl, q1, q2, hb⟩ := hrel
    by_cases hlt : k < 32
    · have hd1 : decide ((k : Int) < 32) = true := by simp; omega
      have hput := unhide HPut k hlt
      have hpuo := unhide HPuo k hlt
      have hl1 : (pParts seed index d k ++ List.replicate (1024 - 32 * k) 0).length = 1024 := by rw [List.length_append, pParts_length, List.length_replicate]; omega
      have hl2 : (pOthers seed index d k ++ List.replicate (1024 - 32 * k) 0).length = 1024 := by rw [List.length_append, pOthers_length, List.length_replicate]; omega
      have hw : Below w.heap.size w wr := (unhide HbA).trans (hb.mono (by omega))
      have tb := (unhide HT).below hw (Nat.le_refl _)
      have hz : w.heap.size + 1 + 1 + 1 < wr.heap.size := (Array.getElem?_eq_some_iff.1 q2).1
      have p0 := Below.at hb (by omega) (unhide HA).1
      have p1 := Below.at hb (by omega) (unhide HA).2
      have cB := fun w => unhide CB k (by omega) w
      have hbt := pBit_lt d k
      have cS1 := fun w tabs => unhide CS k (pBit d k) (by omega) (by omega) w tabs
      have cS2 := fun w tabs => unhide CS k (1 - pBit d k) (by omega) (by omega) w tabs
      have cP := fun w tabs => public_calls (pSecret seed index k (1 - pBit d k)) (pSecret_length _ _ _ _) w tabs
      have hD1 : (partAt seed index d k).length = 32 := pSecret_length _ _ _ _
      have hD2 : (otherAt seed index d k).length = 32 := pPublic_length _
      have hi2 := digInfo (partAt seed index d k) hD1
      have hi3 := digInfo (otherAt seed index d k) hD2
      have e1 : pSecret seed index k (pBit d k) = partAt seed index d k := rfl
      have e2 : pPublic (pSecret seed index k (1 - pBit d k)) = otherAt seed index d k := rfl
      have e3 : (List.range k).flatMap (partAt seed index d) = pParts seed index d k := rfl
      have e4 : (List.range k).flatMap (otherAt seed index d) = pOthers seed index d k := rfl
      rw [e1] at cS1
      rw [e2] at cP
      rw [e3] at hput
      rw [e4] at hpuo
      have m1 : (1 : Int) - ((pBit d k : Nat) : Int) = ((1 - pBit d k : Nat) : Int) := by omega
      generalize partAt seed index d k = D1 at *
      generalize otherAt seed index d k = D2 at *
      generalize pSecret seed index k (1 - pBit d k) = S2 at *
      generalize pParts seed index d k ++ List.replicate (1024 - 32 * k) 0 = L1 at *
      generalize pOthers seed index d k ++ List.replicate (1024 - 32 * k) 0 = L2 at *
      generalize 1 - pBit d k = b2 at *
      generalize pBit d k = b1 at *
      have bk : (0 : Int) ≤ k ∧ (k : Int) < 32 := by omega
      have HPt := hide hput
      have HPo := hide hpuo
      have KB := hide cB
      have K1 := hide cS1
      have K2 := hide cS2
      have KP := hide cP
      clear hput hpuo cB cS1 cS2 cP e1 e2 e3 e4
      go_wp2_with (refine wpList_load_row rfl 23 (.tmp 7) rfl (w.heap.size + 1) rfl 23 _ (0, 0) _ p1 Tryd.underlying23 rfl hi1 ?_)
      refine (unhide KB _).mono ?_
      rintro e w2 ⟨rfl, b2'⟩
      have p0' := Below.at b2' (by omega) p0
      have q1' := Below.at b2' (by omega) q1
      have q2' := Below.at b2' (by omega) q2
      have hb2 := hb.trans (b2'.mono (by omega))
      have tb2 := tb.below b2' (Nat.le_refl _)
      have z2 : w.heap.size + 1 + 1 + 1 < w2.heap.size := Nat.lt_of_lt_of_le hz b2'.size
      clear p0 p1 q1 q2 hb tb b2' hw hz
      go_wp2_with (refine wpList_load_row rfl 23 (.tmp 5) rfl w.heap.size rfl 23 _ (0, 0) _ p0' Tryd.underlying23 rfl hi0 ?_)
      refine (unhide K1 _ tb2).mono ?_
      rintro e w3 ⟨rfl, b3⟩
      have p0 := Below.at b3 (by omega) p0'
      have q1 := Below.at b3 (by omega) q1'
      have q2 := Below.at b3 (by omega) q2'
      have hb3 := hb2.trans (b3.mono (by omega))
      have tb3 := tb2.below b3 (Nat.le_refl _)
      have z3 : w.heap.size + 1 + 1 + 1 < w3.heap.size := Nat.lt_of_lt_of_le z2 b3.size
      clear p0' q1' q2' hb2 tb2 b3 z2
      go_wp2_with (first
        | (refine wpList_store_at rfl 23 (.tmp 30) (.tmp 29) rfl (w.heap.size + 1 + 1) (k * 32) L1 D1 23 rfl rfl q1 (by rw [hD1, hl1]; omega) hi2 ?_; intro w4 q4 ho4 hs4 hb4)
        | (refine wpList_load_row rfl 23 (.tmp 5) rfl w.heap.size rfl 23 _ (0, 0) _ ((ho4 _ (by omega)).trans p0) Tryd.underlying23 rfl hi0 ?_))
      rw [unhide HPt] at q4
      have q2' := (ho4 (w.heap.size + 1 + 1 + 1) (by omega)).trans q2
      have p0' := (ho4 w.heap.size (by omega)).trans p0
      have hb4' := hb3.trans (hb4 _ (Nat.le_refl _))
      have z4 : w.heap.size + 1 + 1 + 1 < w4.heap.size := by omega
      have tb4 := (unhide HT).below ((unhide HbA).trans (hb4'.mono (by omega))) (Nat.le_refl _)
      clear q1 q2 p0 hb3 ho4 hs4 hb4 tb3 z3
      refine (unhide K2 _ tb4).mono ?_
      rintro e w5 ⟨rfl, b5⟩
      have q5 := Below.at b5 (by omega) q4
      have r5 := Below.at b5 (by omega) q2'
      have hb5 := hb4'.trans (b5.mono (by omega))
      have tb5 := tb4.below b5 (Nat.le_refl _)
      have z5 : w.heap.size + 1 + 1 + 1 < w5.heap.size := Nat.lt_of_lt_of_le z4 b5.size
      clear q4 q2' p0' hb4' tb4 z4 b5
      go_wp2_with fail
      refine (unhide KP _ tb5).mono ?_
      rintro e w6 ⟨rfl, b6⟩
      have q6 := Below.at b6 (by omega) q5
      have r6 := Below.at b6 (by omega) r5
      have hb6 := hb5.trans (b6.mono (by omega))
      clear q5 r5 hb5 tb5 z5 b6
      go_wp2_with (refine wpList_store_at rfl 23 (.tmp 42) (.tmp 41) rfl (w.heap.size + 1 + 1 + 1) (k * 32) L2 D2 23 rfl rfl r6 (by rw [hD2, hl2]; omega) hi3 ?_; intro w7 q7 ho7 hs7 hb7)
      rw [unhide HPo] at q7
      have r7 := (ho7 (w.heap.size + 1 + 1) (by omega)).trans q6
      have hb8 := hb6.trans (hb7 _ (by omega))
      have Q7 := hide q7
      have R7 := hide r7
      have HB8 := hide hb8
      clear q7 r7 hb8 q6 r6 hb6 ho7 hs7 hb7
      go_wp2
      go_roundw
      case rel => exact ⟨k + 1, by omega, by go_num, unhide R7, unhide Q7, unhide HB8⟩
      case measure => simp [intOf]; omega
    · have hd1 : decide ((k : Int) < 32) = false := by simp; omega
      have hk32 : k = 32 := by omega
      subst hk32
      have e1 : pParts seed index d 32 ++ List.replicate (1024 - 32 * 32) 0 = pParts seed index d 32 := by simp
      have e2 : pOthers seed index d 32 ++ List.replicate (1024 - 32 * 32) 0 = pOthers seed index d 32 := by simp
      rw [e1] at q1
      rw [e2] at q2
      have hw : Below w.heap.size w wr := (unhide HbA).trans (hb.mono (by omega))
      have Q1 := hide q1
      have Q2 := hide q2
      have HW := hide hw
      clear q1 q2 hb hw e1 e2
      go_wp2
      go_ret2
      exact ⟨w.heap.size + 1 + 1, by omega, rfl, unhide HW, unhide Q1, unhide Q2⟩
end Go.Proofs.YtdlgkmaknoaodaaDoor

namespace Go.Proofs.YtdlgkmaknoaodaaDoor
open Go.RowKit

theorem wpQuiet_load_mid {P : Program} {ops : Array Oper} {C : World → Prop} {Q : Act → Prop} {a : Act} {o : Oper} {rest : List Oper} (hw : Region.wanted o (yielded ops a.tmps) = true) (ty : TypeId) (x : Operand) (ho : o.op = .load ty x)
    (b off : Nat) (hx : a.eval x = .pointer (some ⟨b, off, none⟩)) (cs : List Value) (d : TypeDesc) (hc : ∀ w, C w → w.rangeAt b off cs)
    (hu : P.underlying ty = some d) (hd : d.isRow = true) (hi : (P.info? ty).map (·.size) = some cs.length)
    (h : wpQuiet P ops C Q rest (a.put o.dst (.agg cs.toArray))) : wpQuiet P ops C Q (o :: rest) a := by
  show if _ then _ else _
  rw [if_pos hw]
  refine ⟨.agg cs.toArray, fun w hC => ?_, h⟩
  have hl := run_loadVar_mid w b off ty cs d (hc w hC) hu hd hi
  unfold Oper.quietAt execOp
  simp only [ho, hx, Instr.loadAt, Instr.sureAddr, Sem.run_bind, Sem.run_pure, Result.andThen_ok, hl]
  exact ⟨rfl, rfl⟩
theorem wpQuiet_eql {P : Program} {ops : Array Oper} {C : World → Prop} {Q : Act → Prop} {a : Act} {o : Oper} {rest : List Oper} (hw : Region.wanted o (yielded ops a.tmps) = true) (t t' : TypeId) (x y : Operand) (ho : o.op = .binOp .eql t x y t')
    (u v : Array Value) (hx : a.eval x = .agg u) (hy : a.eval y = .agg v) (hgt : P.eqGuardType P.depth t = false) (b : Bool) (he : ∀ w, (binOp .eql t (.agg u) (.agg v)).run P w = .ok (.bool b) w)
    (h : wpQuiet P ops C Q rest (a.put o.dst (.bool b))) : wpQuiet P ops C Q (o :: rest) a := by
  show if _ then _ else _
  rw [if_pos hw]
  refine ⟨.bool b, fun w hC => ?_, h⟩
  have hg : (eqGuard .eql t x y (.agg u) (.agg v)).run P w = .ok () w := run_eqGuard_agg w .eql t x y u v hgt
  unfold Oper.quietAt execOp
  simp only [ho, hx, hy, Sem.run_bind, hg, Result.andThen_ok, he]
  exact ⟨rfl, rfl⟩
end Go.Proofs.YtdlgkmaknoaodaaDoor

namespace Go.Proofs.YtdlgkmaknoaodaaDoor
open Go Go.RowKit
set_option linter.unusedSimpArgs false
set_option linter.unusedVariables false

def chunk (L : List UInt8) (i : Nat) : List UInt8 := (L.drop (32 * i)).take 32
theorem chunk_length (L : List UInt8) (i : Nat) (h : 32 * (i + 1) ≤ L.length) : (chunk L i).length = 32 := by unfold chunk; rw [List.length_take, List.length_drop]; omega
/-- The publics of a place, as a signature tells them. -/
def openAt (d P O : List UInt8) (i : Nat) : List UInt8 := if pBit d i = 0 then pPublic (chunk P i) ++ chunk O i else chunk O i ++ pPublic (chunk P i)
def pOpen (d P O : List UInt8) (k : Nat) : List UInt8 := (List.range k).flatMap (openAt d P O)
theorem openAt_length (d P O : List UInt8) (i : Nat) (h : 32 * (i + 1) ≤ O.length) : (openAt d P O i).length = 64 := by
  have := chunk_length O i h
  unfold openAt; split <;> rw [List.length_append, pPublic_length, this]
theorem pOpen_length (d P O : List UInt8) : ∀ k, 32 * k ≤ O.length → (pOpen d P O k).length = 64 * k
  | 0, _ => rfl
  | k + 1, h => by
    have ih := pOpen_length d P O k (by omega)
    unfold pOpen at ih ⊢
    rw [List.range_succ, List.flatMap_append, List.length_append, ih]
    simp [openAt_length d P O k h]; omega
theorem pOpen_succ (d P O : List UInt8) (k : Nat) : pOpen d P O (k + 1) = pOpen d P O k ++ openAt d P O k := by
  unfold pOpen; rw [List.range_succ, List.flatMap_append]; simp
/-- Two digests written over noughts, one at each half of a place. -/
theorem put_two (A X Y : List UInt8) (n b : Nat) (hb : b < 2) (k : Nat) (hA : A.length = 64 * k) (hX : X.length = 32) (hY : Y.length = 32) (hn : 64 ≤ n) :
    putAt (putAt (A ++ List.replicate n 0) (k * 64 + b * 32) X) (k * 64 + (1 - b) * 32) Y = A ++ (if b = 0 then X ++ Y else Y ++ X) ++ List.replicate (n - 64) 0 := by
  have hr : List.replicate n (0 : UInt8) = List.replicate 32 0 ++ List.replicate 32 0 ++ List.replicate (n - 64) 0 := by
    rw [List.replicate_append_replicate, List.replicate_append_replicate]; congr 1; omega
  rw [hr]
  generalize hz : List.replicate 32 (0 : UInt8) = Z
  have hZ : Z.length = 32 := by rw [← hz]; simp
  generalize List.replicate (n - 64) (0 : UInt8) = R
  have key : ∀ (A U V W : List UInt8) (o : Nat), o = A.length → V.length = U.length → putAt (A ++ (U ++ W)) o V = A ++ (V ++ W) := by
    intro A U V W o ho hV
    subst ho
    unfold putAt
    rw [List.take_left, ← List.drop_drop, List.drop_left, hV, List.drop_left, List.append_assoc]
  match b, hb with
  | 0, _ =>
    rw [if_pos rfl]
    rw [show A ++ (Z ++ Z ++ R) = A ++ (Z ++ (Z ++ R)) by simp, key A Z X (Z ++ R) _ (by omega) (by omega), show A ++ (X ++ (Z ++ R)) = (A ++ X) ++ (Z ++ R) by simp,
      key (A ++ X) Z Y R _ (by rw [List.length_append]; omega) (by omega)]
    simp
  | 1, _ =>
    rw [if_neg (by decide)]
    rw [show A ++ (Z ++ Z ++ R) = (A ++ Z) ++ (Z ++ R) by simp, key (A ++ Z) Z X R _ (by rw [List.length_append]; omega) (by omega), show (A ++ Z) ++ (X ++ R) = A ++ (Z ++ (X ++ R)) by simp,
      key A Z Y (X ++ R) _ (by omega) (by omega)]
    simp
theorem open_put (d P O : List UInt8) (k : Nat) (hk : k < 32) (hO : O.length = 1024) :
    putAt (putAt (pOpen d P O k ++ List.replicate (2048 - 64 * k) 0) (k * 64 + pBit d k * 32) (pPublic (chunk P k))) (k * 64 + (1 - pBit d k) * 32) (chunk O k) = pOpen d P O (k + 1) ++ List.replicate (2048 - 64 * (k + 1)) 0 := by
  rw [put_two _ _ _ _ _ (pBit_lt d k) k (pOpen_length d P O k (by omega)) (pPublic_length _) (chunk_length O k (by omega)) (by omega), pOpen_succ]
  rw [show 2048 - 64 * k - 64 = 2048 - 64 * (k + 1) by omega]
  rfl
theorem bytes_range {w : World} {g off : Nat} {L : List UInt8} (h : Bytes w g off L) (k : Nat) (hk : 32 * (k + 1) ≤ L.length) : w.rangeAt g (off + k * 32) (Lib.byteCells (chunk L k)) := fun i v hv => by
  have hcl := chunk_length L k hk
  have hi : i < 32 := by
    have := (List.getElem?_eq_some_iff.1 hv).1
    rw [Lib.byteCells_length] at this; omega
  have h1 := h (k * 32 + i) (by omega)
  have e : L.getD (k * 32 + i) 0 = (chunk L k).getD i 0 := by
    unfold chunk
    rw [List.getD_eq_getElem?_getD, List.getD_eq_getElem?_getD, List.getElem?_take, if_pos hi, List.getElem?_drop, Nat.mul_comm]
  have hv' : v = .int .u8 (((chunk L k).getD i 0).toNat : Int) := by
    have := bc_at (chunk L k) i (by omega)
    unfold bc at this
    rw [List.getElem?_toArray, hv] at this
    exact Option.some.inj this
  rw [Nat.add_assoc, h1, e, hv']
set_option maxHeartbeats 4000000 in
set_option maxRecDepth 100000 in
theorem opened_calls (d : List UInt8) (hd : d.length = 32) (P O : List UInt8) (hP : P.length = 1024) (hO : O.length = 1024) (g1 o1 c1 g2 o2 c2 : Nat) (w : World) (hg1 : g1 < w.heap.size) (hg2 : g2 < w.heap.size) (bP : Bytes w g1 o1 P) (bO : Bytes w g2 o2 O) (tabs : Tabs w) :
    Calls Tryd.prog 20 #[.pointer none, .agg (bc d), .slice (some ⟨g1, o1, none⟩) 32 c1, .slice (some ⟨g2, o2, none⟩) 32 c2] w fun e w' => e = .returned (.tuple #[.agg (bc (pWordOf (pOpen d P O 32))), .bool true]) ∧ Below w.heap.size w w' := by
  have hLL : (pOpen d P O 32).length = 2048 := pOpen_length d P O 32 (by omega)
  have hW : (pWordOf (pOpen d P O 32)).length = 32 := pOf_length _ _
  have hi1 := digInfo (pWordOf (pOpen d P O 32)) hW
  have hz1 := zeroSize (pWordOf (pOpen d P O 32)) hW
  have ho1 := bc_oneCell (pWordOf (pOpen d P O 32))
  have hi0 := digInfo d hd
  have cW := fun w tabs => wordOf_calls (pOpen d P O 32) hLL w tabs
  have hiP := pubsInfo (pOpen d P O 32) hLL
  have cB := fun i hi w => bit_calls d hd i hi w
  have HPut := hide fun k hk => open_put d P O k hk hO
  generalize pWordOf (pOpen d P O 32) = D at *
  have HT := hide tabs
  have HiP := hide hiP
  have CW := hide cW
  have CB := hide cB
  have HbP := hide bP
  have HbO := hide bO
  have hA := al2 w (.cells (bc d) 23) (.cells (bc (List.replicate 32 0)) 23)
  have hbA := bel2 w (.cells (bc d) 23) (.cells (bc (List.replicate 32 0)) 23)
  have hsX : ((w.alloc (.cells (bc d) 23)).alloc (.cells (bc (List.replicate 32 0)) 23)).heap.size = w.heap.size + 1 + 1 := by simp
  have HA := hide hA
  have HbA := hide hbA
  have HsX := hide hsX
  clear tabs hiP cW cB hA hbA hsX bP bO hLL
  go_enter Tryd.func20, Tryd.ntmps20
  go_wp2
  rw [zero84]
  go_loopw [11, 12, 22] (fun _ _ i wr => ∃ k : Nat, k ≤ 32 ∧ i = .int .i64 (k : Int) ∧ wr.heap[w.heap.size + 1 + 1]? = some (.cells (bc (pOpen d P O k ++ List.replicate (2048 - 64 * k) 0)) 67 (0, 0)) ∧ Below (w.heap.size + 1 + 1) ((w.alloc (.cells (bc d) 23)).alloc (.cells (bc (List.replicate 32 0)) 23)) wr) (fun _ _ i _ => 32 - (intOf i).toNat)
  case atStart =>
    refine ⟨0, by omega, rfl, ?_, ?_⟩
    · have := al1 ((w.alloc (.cells (bc d) 23)).alloc (.cells (bc (List.replicate 32 0)) 23)) (.cells (bc (List.replicate 2048 0)) 67)
      rw [unhide HsX] at this
      exact this
    · have := (Below.refl ((w.alloc (.cells (bc d) 23)).alloc (.cells (bc (List.replicate 32 0)) 23)).heap.size ((w.alloc (.cells (bc d) 23)).alloc (.cells (bc (List.replicate 32 0)) 23))).alloc (Nat.le_refl _) (.cells (bc (List.replicate 2048 0)) 67)
      rw [unhide HsX] at this
      exact this
  case round =>
    obtain ⟨k, hk, rfl, q, hb⟩ := hrel
    have hw : Below w.heap.size w wr := (unhide HbA).trans (hb.mono (by omega))
    have tb := (unhide HT).below hw (Nat.le_refl _)
    have hz : w.heap.size + 1 + 1 < wr.heap.size := (Array.getElem?_eq_some_iff.1 q).1
    by_cases hlt : k < 32
    · have hd1 : decide ((k : Int) < 32) = true := by simp; omega
      have hput := unhide HPut k hlt
      have hll : (pOpen d P O k ++ List.replicate (2048 - 64 * k) 0).length = 2048 := by
        rw [List.length_append, pOpen_length d P O k (by omega), List.length_replicate]; omega
      have p1 := Below.at hb (by omega) (unhide HA).1
      have cB := fun w => unhide CB k (by omega) w
      have hbt := pBit_lt d k
      have hcl1 := chunk_length P k (by omega)
      have hcl2 := chunk_length O k (by omega)
      have cP := fun w tabs => public_calls (chunk P k) hcl1 w tabs
      have hpl : (pPublic (chunk P k)).length = 32 := pPublic_length _
      have hi2 := digInfo (pPublic (chunk P k)) hpl
      have hi3 := digInfo (chunk O k) hcl2
      have rP := bytes_range ((unhide HbP).below hw hg1) k (by omega)
      have rO := bytes_range ((unhide HbO).below hw hg2) k (by omega)
      have m1 : (1 : Int) - ((pBit d k : Nat) : Int) = ((1 - pBit d k : Nat) : Int) := by omega
      have hb2t : 1 - pBit d k < 2 := by omega
      have bk : (0 : Int) ≤ k ∧ (k : Int) < 32 := by omega
      have b1 : (0 : Int) ≤ ((pBit d k : Nat) : Int) ∧ ((pBit d k : Nat) : Int) < 2 := by omega
      have b2 : (0 : Int) ≤ ((1 - pBit d k : Nat) : Int) ∧ ((1 - pBit d k : Nat) : Int) < 2 := by omega
      generalize pOpen d P O k ++ List.replicate (2048 - 64 * k) 0 = L at *
      generalize pPublic (chunk P k) = PD at *
      generalize chunk P k = PC at *
      generalize chunk O k = OC at *
      generalize 1 - pBit d k = bb at *
      generalize pBit d k = ba at *
      have mw : IntKind.i64.wrap (bb : Int) = (bb : Int) := wrap_small _ (by omega) (by omega)
      have HPt := hide hput
      have KB := hide cB
      have KP := hide cP
      have RP := hide rP
      have RO := hide rO
      clear hput cB cP rP rO
      go_wp2_with (refine wpList_load_row rfl 23 (.tmp 5) rfl w.heap.size rfl 23 _ (0, 0) _ p1 Tryd.underlying23 rfl hi0 ?_)
      refine (unhide KB _).mono ?_
      rintro e w2 ⟨rfl, b2'⟩
      have q2 := Below.at b2' hz q
      have hb2 := hb.trans (b2'.mono (by omega))
      have tb2 := tb.below b2' (Nat.le_refl _)
      have z2 : w.heap.size + 1 + 1 < w2.heap.size := Nat.lt_of_lt_of_le hz b2'.size
      have kP : Hid (∀ dd os, Calls Tryd.prog 14 #[.pointer none, .agg (bc PC)] (Sort.grow (redrawn w2 dd) os) fun e w'' => e = .returned (.agg (bc PD)) ∧ ∃ p : Regrown, w'' = Sort.grow (redrawn w2 p.d) p.os) := fun dd os => Calls.regrown_of (unhide KP _ (tb2.below (below_regrown w2 dd os) (Nat.le_refl _)))
      have rowP : Hid (∀ w', (∃ p : Regrown, w' = Sort.grow (redrawn w2 p.d) p.os) → w'.rangeAt g1 (o1 + k * 32) (Lib.byteCells PC)) := fun w' ⟨p, hp⟩ j v hv => by
        rw [hp, (below_regrown w2 p.d p.os).cell (p := ⟨g1, o1 + k * 32 + j, none⟩) (by show g1 < _; omega), b2'.cell (p := ⟨g1, o1 + k * 32 + j, none⟩) (by show g1 < _; omega)]
        exact unhide RP j v hv
      have HQ2 := hide q2
      have HB2 := hide hb2
      have RO2 : Hid (w2.rangeAt g2 (o2 + k * 32) (Lib.byteCells OC)) := fun j v hv => by
        rw [b2'.cell (p := ⟨g2, o2 + k * 32 + j, none⟩) (by show g2 < _; omega)]
        exact unhide RO j v hv
      clear p1 q hb tb b2' hw hz tb2 q2 hb2 RP RO
      go_wp2_with fail
      refine wp_region_below_tail 10 mixed (by kernel_rfl) ?_
      simp only [List.take_succ_cons, List.take_zero, List.drop_succ_cons, List.drop_zero]
      quiet_step (fail)
      quiet_step (fail)
      quiet_step (fail)
      quiet_step (fail)
      quiet_step (fail)
      quiet_step (fail)
      refine wpQuiet_load_mid rfl 23 (.tmp 33) rfl g1 (o1 + k * 32) rfl (Lib.byteCells PC) _ (unhide rowP) Tryd.underlying23 rfl (by rw [Lib.byteCells_length, hcl1]; kernel_rfl) ?_
      quiet_step (exact unhide kP _ _)
      quiet_step (fail)
      quiet_step (fail)
      refine wpQuiet_nil ?_
      intro w3 hb3
      have q3 := Below.at hb3 z2 (unhide HQ2)
      have hb3' := (unhide HB2).trans (hb3.mono (by omega))
      have z3 : w.heap.size + 1 + 1 < w3.heap.size := Nat.lt_of_lt_of_le z2 hb3.size
      have RO3 : Hid (w3.rangeAt g2 (o2 + k * 32) (Lib.byteCells OC)) := fun j v hv => by
        rw [hb3.cell (p := ⟨g2, o2 + k * 32 + j, none⟩) (by show g2 < _; omega)]
        exact unhide RO2 j v hv
      clear hb3 HQ2 HB2 RO2 z2 kP rowP
      go_wp2_with (refine wpList_store_at rfl 23 (.tmp 37) (.tmp 35) rfl (w.heap.size + 1 + 1) (k * 64 + ba * 32) L PD 67 rfl rfl q3 (by rw [hpl, hll]; omega) hi2 ?_; intro w4 q4 ho4 hs4 hb4)
      have hb4' := hb3'.trans (hb4 _ (Nat.le_refl _))
      have z4 : w.heap.size + 1 + 1 < w4.heap.size := by omega
      have rowO : Hid (∀ w', (∃ p : Regrown, w' = Sort.grow (redrawn w4 p.d) p.os) → w'.rangeAt g2 (o2 + k * 32) (Lib.byteCells OC)) := fun w' ⟨p, hp⟩ j v hv => by
        rw [hp, (below_regrown w4 p.d p.os).cell (p := ⟨g2, o2 + k * 32 + j, none⟩) (by show g2 < _; omega), (hb4 _ (Nat.le_refl _)).cell (p := ⟨g2, o2 + k * 32 + j, none⟩) (by show g2 < _; omega)]
        exact unhide RO3 j v hv
      have HQ4 := hide q4
      have HB4 := hide hb4'
      clear q3 hb3' z3 RO3 q4 ho4 hs4 hb4 hb4'
      go_frame
      refine wp_region_below_tail 9 mixed (by kernel_rfl) ?_
      simp only [List.take_succ_cons, List.take_zero, List.drop_succ_cons, List.drop_zero]
      quiet_step (fail)
      quiet_step (fail)
      quiet_step (fail)
      quiet_step (fail)
      quiet_step (fail)
      quiet_step (fail)
      refine wpQuiet_load_mid rfl 23 (.tmp 43) rfl g2 (o2 + k * 32) rfl (Lib.byteCells OC) _ (unhide rowO) Tryd.underlying23 rfl (by rw [Lib.byteCells_length, hcl2]; kernel_rfl) ?_
      quiet_step (fail)
      quiet_step (fail)
      refine wpQuiet_nil ?_
      intro w5 hb5
      have q5 := Below.at hb5 z4 (unhide HQ4)
      have hb5' := (unhide HB4).trans (hb5.mono (by omega))
      have hll2 : (putAt L (k * 64 + ba * 32) PD).length = 2048 := by rw [putAt_length _ _ _ (by rw [hpl, hll]; omega), hll]
      clear hb5 HQ4 HB4 rowO
      go_wp2_with (refine wpList_store_at rfl 23 (.tmp 46) (.tmp 44) rfl (w.heap.size + 1 + 1) (k * 64 + bb * 32) (putAt L (k * 64 + ba * 32) PD) OC 67 rfl rfl q5 (by rw [hcl2, hll2]; omega) hi3 ?_; intro w6 q6 ho6 hs6 hb6)
      rw [unhide HPt] at q6
      have hb7 := hb5'.trans (hb6 _ (Nat.le_refl _))
      have Q6 := hide q6
      have HB7 := hide hb7
      clear q5 hb5' q6 ho6 hs6 hb6 hb7
      go_wp2
      go_roundw
      case rel => exact ⟨k + 1, by omega, by go_num, unhide Q6, unhide HB7⟩
      case measure => simp [intOf]; omega
    · have hd1 : decide ((k : Int) < 32) = false := by simp; omega
      have hk32 : k = 32 := by omega
      subst hk32
      have ee : pOpen d P O 32 ++ List.replicate (2048 - 64 * 32) 0 = pOpen d P O 32 := by simp
      rw [ee] at q
      have hiP := unhide HiP
      have cW := unhide CW
      have q1 := Below.at hb (by omega) (unhide HA).2
      generalize pOpen d P O 32 = L at *
      have CW2 := hide cW
      clear hb ee CW cW CB HPut
      go_wp2_with (refine wpList_load_row rfl 67 (.tmp 10) rfl (w.heap.size + 1 + 1) rfl 67 _ (0, 0) _ q Tryd.underlying67 rfl hiP ?_)
      refine (unhide CW2 _ tb).mono ?_
      rintro e w3 ⟨rfl, b3⟩
      have q3 := Below.at b3 (by omega) q1
      have hw3 := hw.trans (b3.mono (by omega))
      clear b3 q1 q tb
      go_wp2_with (refine wpList_store_row rfl 23 (.tmp 8) (.tmp 50) rfl (w.heap.size + 1) _ rfl rfl 23 _ q3 hi1 hz1 ho1 ?_)
      exact bodyPost_ret (results_row_tmp rfl _ _ (w.heap.size + 1) _ _ _ _ rfl (setRow_heap _ _ _ _ _ _ q3) Tryd.underlying23 rfl hi1) rfl ⟨rfl, below_setRow hw3 (by omega) _⟩
end Go.Proofs.YtdlgkmaknoaodaaDoor

namespace Go.Proofs.YtdlgkmaknoaodaaDoor
open Go Go.RowKit
set_option linter.unusedSimpArgs false
set_option linter.unusedVariables false

set_option maxHeartbeats 4000000 in
set_option maxRecDepth 100000 in
theorem ropenedQ_calls (d : List UInt8) (hd : d.length = 32) (P O : List UInt8) (hP : P.length = 1024) (hO : O.length = 1024) (g1 o1 c1 g2 o2 c2 : Nat) (L : Nat) (S : Nat → Prop) (I : List (List UInt8)) (hI : I.length ≤ 1000000000000) (w : World) (hL : RLogAt w L S I) (hg1 : g1 < w.heap.size) (hg2 : g2 < w.heap.size) (hn1 : ¬ S g1) (hn2 : ¬ S g2) (bP : Bytes w g1 o1 P) (bO : Bytes w g2 o2 O) :
    Calls Tryd.prog 21 #[.pointer (some ⟨L, 0, none⟩), .agg (bc d), .slice (some ⟨g1, o1, none⟩) 32 c1, .slice (some ⟨g2, o2, none⟩) 32 c2] w fun e w' => e = .returned (.tuple #[.agg (bc (pWordOf (pOpen d P O 32))), .bool true]) ∧ QS L S I 33 (fun J => (∀ j, j < 32 → uIn (chunk P j) ∈ J) ∧ wIn (pOpen d P O 32) ∈ J) w w' := by
  have hLL : (pOpen d P O 32).length = 2048 := pOpen_length d P O 32 (by omega)
  have hW : (pWordOf (pOpen d P O 32)).length = 32 := pOf_length _ _
  have hi1 := digInfo (pWordOf (pOpen d P O 32)) hW
  have hz1 := zeroSize (pWordOf (pOpen d P O 32)) hW
  have ho1 := bc_oneCell (pWordOf (pOpen d P O 32))
  have hi0 := digInfo d hd
  have CO := hide (fun S ins hin g w hs hl => rofQ_calls 3 (by decide) [pOpen d P O 32] (by simp; omega) (by simp) (some ⟨g, 0, none⟩) 1 L S ins hin w hs hl)
  have e2 : pOf 3 [pOpen d P O 32] = pWordOf (pOpen d P O 32) := rfl
  have e3 : pInput 3 [pOpen d P O 32] = wIn (pOpen d P O 32) := rfl
  rw [e2, e3] at CO
  obtain ⟨WI, hWI⟩ : ∃ y, wIn (pOpen d P O 32) = y := ⟨_, rfl⟩
  rw [hWI] at CO ⊢
  clear hWI
  have CB := hide (fun i hi w => rbit_calls d hd i hi w)
  have HLen := hide (fun k hk => pOpen_length d P O k hk)
  have HSucc := hide (pOpen_succ d P O)
  generalize pWordOf (pOpen d P O 32) = D at *
  have HbP := hide bP
  have HbO := hide bO
  have HG1 := hide hg1
  have HG2 := hide hg2
  have HM1 := hide hn1
  have HM2 := hide hn2
  obtain ⟨q0, q1⟩ := al2 w (.cells (bc d) 23) (.cells (bc (List.replicate 32 0)) 23)
  have b0 := bel2 w (.cells (bc d) 23) (.cells (bc (List.replicate 32 0)) 23)
  have sX : ((w.alloc (.cells (bc d) 23)).alloc (.cells (bc (List.replicate 32 0)) 23)).heap.size = w.heap.size + 1 + 1 := by simp
  obtain ⟨X, hX⟩ : ∃ X, (w.alloc (.cells (bc d) 23)).alloc (.cells (bc (List.replicate 32 0)) 23) = X := ⟨_, rfl⟩
  rw [hX] at q0 q1 b0 sX
  have HX := hide hX
  have SX := hide sX
  have LX := hide (hL.below b0)
  have HOLD := hide hL.old
  have HN0 : Hid (¬ S w.heap.size) := hide fun h => by have := hL.old _ h; omega
  have HN1 : Hid (¬ S (w.heap.size + 1)) := hide fun h => by have := hL.old _ h; omega
  have B0 := hide b0
  have Q0 := hide q0
  have Q1 := hide q1
  have HII := hide hI
  clear e2 e3 bP bO hX sX b0 q0 q1 hLL hL hI hg1 hg2 hn1 hn2
  go_enter Tryd.func21, Tryd.ntmps21
  go_upto_region 1 with fail
  change Code.wp _ _ _ _ ((w.alloc (.cells (bc d) 23)).alloc (.cells (bc (List.replicate 32 0)) 23))
  rw [unhide HX]
  go_wp2
  go_loopw [10, 11] (fun v i wr => ∃ (k : Nat) (S' : Nat → Prop) (I' : List (List UInt8)), k ≤ 32 ∧ i = .int .i64 (k : Int) ∧ Hid (Row X.heap.size (pOpen d P O k) v wr) ∧ Hid (LS X L S I k (fun J => ∀ j, j < k → uIn (chunk P j) ∈ J) v.ownBlock wr S' I')) (fun _ i _ => 32 - (intOf i).toNat)
  case atStart => exact ⟨0, S, I, by omega, rfl, hide (World.ownsRow_nil _ _ _ _), hide (LS.start (unhide LX) (fun j hj => absurd hj (Nat.not_lt_zero _)))⟩
  case round =>
    obtain ⟨k, S1, I1, hk, rfl, hrow, hls⟩ := hrel
    have hl := unhide HLen k (by omega)
    by_cases hlt : k < 32
    · have hd1 : decide ((k : Int) < 32) = true := by simp; omega
      have bk : (0 : Int) ≤ k ∧ (k : Int) < 32 := by omega
      have hcl1 := chunk_length P k (by omega)
      have hcl2 := chunk_length O k (by omega)
      have HcP := hide (pPublic_length (chunk P k))
      have HcO := hide hcl2
      have hs1 := unhide HSucc k
      have hn2 : Hid (I1.length < 1099511627000) := hide (by have := (unhide hls).2.2.2.2.2.2; have := unhide HII; omega)
      have cP := hide (fun w hl => rpublicQ_calls (chunk P k) hcl1 L S1 I1 (by have := unhide hn2; omega) w hl)
      have hpl : (pPublic (chunk P k)).length = 32 := pPublic_length _
      have cY := hide (fun w => rbytes_calls (pPublic (chunk P k)) hpl w)
      have cZ := hide (fun w => rbytes_calls (chunk O k) hcl2 w)
      have hiP : (Tryd.prog.info? 23).map (·.size) = some (Lib.byteCells (chunk P k)).length := by rw [Lib.byteCells_length, hcl1]; kernel_rfl
      have hiO : (Tryd.prog.info? 23).map (·.size) = some (Lib.byteCells (chunk O k)).length := by rw [Lib.byteCells_length, hcl2]; kernel_rfl
      have hbytesP : Hid (∀ W, RBut S X W → W.rangeAt g1 (o1 + k * 32) (Lib.byteCells (chunk P k))) := hide fun W h i v hv => by
        rw [← bytes_range ((unhide HbP).below (unhide B0) (unhide HG1)) k (by omega) i v hv]
        exact World.cell?_of_block (w := X) (h.block g1 (by have := unhide HG1; have := unhide SX; omega) (unhide HM1))
      have hbytesO : Hid (∀ W, RBut S X W → W.rangeAt g2 (o2 + k * 32) (Lib.byteCells (chunk O k))) := hide fun W h i v hv => by
        rw [← bytes_range ((unhide HbO).below (unhide B0) (unhide HG2)) k (by omega) i v hv]
        exact World.cell?_of_block (w := X) (h.block g2 (by have := unhide HG2; have := unhide SX; omega) (unhide HM2))
      have cB := hide (fun w => unhide CB k (by omega) w)
      have e0 : openAt d P O k = if pBit d k = 0 then pPublic (chunk P k) ++ chunk O k else chunk O k ++ pPublic (chunk P k) := rfl
      rw [e0] at hs1
      have hbt := pBit_lt d k
      have hs1h := hide hs1
      have hlh := hide hl
      have hnew : Hid ((∀ j, j < k → uIn (chunk P j) ∈ I1) → ∀ j, j < k + 1 → uIn (chunk P j) ∈ rnoted (uIn (chunk P k)) I1) := hide fun h j hj => by
        by_cases e : j = k
        · rw [e]; exact mem_rnoted _ _
        · exact mem_rnoted_old _ _ _ (h j (by omega))
      obtain ⟨A, hA⟩ : ∃ A, pOpen d P O k = A := ⟨_, rfl⟩
      rw [hA] at hrow hs1h hlh
      generalize pPublic (chunk P k) = PD at *
      generalize uIn (chunk P k) = UI at *
      generalize chunk P k = PC at *
      generalize chunk O k = OC at *
      clear e0 hs1 hl hA hcl1 hcl2 hpl
      by_cases hbit : pBit d k = 0
      · rw [hbit] at cB
        rw [if_pos hbit] at hs1h
        clear hbit hbt
        have rP := (unhide hbytesP) wr (unhide hls).2.1
        go_wp2_with (refine wpList_load_mid_gv rfl 23 (.tmp 29) rfl g1 (o1 + k * 32) rfl (Lib.byteCells PC) _ rP Tryd.underlying23 rfl hiP ?_)
        refine (unhide cP _ (unhide hls).1).mono ?_
        rintro e w1 ⟨rfl, st1⟩
        have r1 := hide ((unhide hrow).step st1 (unhide hls).2.2.2.1)
        obtain ⟨S2, l2⟩ := (unhide hls).step (P' := fun J => ∀ j, j < k + 1 → uIn (chunk P j) ∈ J) st1 (fun k e => ((unhide hrow).lt k e).2) (unhide hnew)
        have L2 := hide l2
        clear st1 l2 rP
        go_wp2_with fail
        refine (unhide cY _).mono ?_
        rintro e w2 ⟨rfl, d2⟩
        have r2 := hide ((unhide r1).below d2)
        have L3 := hide ((unhide L2).below d2)
        have p2 := (unhide L3).at (unhide Q0) (unhide HN0)
        clear d2
        go_wp2_with (refine wpList_load_row rfl 23 (.tmp 5) rfl w.heap.size rfl 23 _ (0, 0) _ p2 Tryd.underlying23 rfl hi0 ?_)
        refine (unhide cB _).mono ?_
        rintro e w3 ⟨rfl, d3⟩
        have r3 := hide ((unhide r2).below d3)
        have L4 := hide ((unhide L3).below d3)
        clear p2 d3
        go_wp2_with (first
          | (at_builtin; (refine wpList_append_at rfl (.tmp 37) (.tmp 38) rfl X.heap.size A u10 rfl PD (unhide r3) (unhide L4).2.1.size rfl (by (try simp only [List.length_append]); have := unhide hlh; have := unhide HcP; have := unhide HcO; omega) ?_); intro v4 w4 r4 g4 a4; have L5 := hide ((unhide L4).grow (v := u10) (v' := v4) (fun k e => ((unhide r3).lt k e).1) g4 a4); have R4 := hide r4; clear r4 g4 a4)
          | (refine wpList_load_mid_gv rfl 23 (.tmp 43) rfl g2 (o2 + k * 32) rfl (Lib.byteCells OC) _ ((unhide hbytesO) _ (unhide L5).2.1) Tryd.underlying23 rfl hiO ?_))
        refine (unhide cZ _).mono ?_
        rintro e w5 ⟨rfl, d5⟩
        have r5 := hide ((unhide R4).below d5)
        have L6 := hide ((unhide L5).below d5)
        clear d5
        go_wp2_with (at_builtin; (refine wpList_append_at rfl (.tmp 40) (.tmp 45) rfl X.heap.size (A ++ PD) v4 rfl OC (unhide r5) (unhide L6).2.1.size rfl (by (try simp only [List.length_append]); have := unhide hlh; have := unhide HcP; have := unhide HcO; omega) ?_); intro v6 w6 r6 g6 a6; have L7 := hide ((unhide L6).grow (v := v4) (v' := v6) (fun k e => ((unhide r5).lt k e).1) g6 a6); have R6 := hide r6; clear r6 g6 a6)
        go_roundw
        case rel => exact ⟨k + 1, S2, _, by omega, by go_num, by rw [unhide hs1h, ← List.append_assoc]; exact R6, L7⟩
        case measure => simp [intOf]; omega
      · have hb1 : pBit d k = 1 := by omega
        rw [hb1] at cB
        rw [if_neg hbit] at hs1h
        clear hbit hbt hb1
        have rP := (unhide hbytesP) wr (unhide hls).2.1
        go_wp2_with (refine wpList_load_mid_gv rfl 23 (.tmp 29) rfl g1 (o1 + k * 32) rfl (Lib.byteCells PC) _ rP Tryd.underlying23 rfl hiP ?_)
        refine (unhide cP _ (unhide hls).1).mono ?_
        rintro e w1 ⟨rfl, st1⟩
        have r1 := hide ((unhide hrow).step st1 (unhide hls).2.2.2.1)
        obtain ⟨S2, l2⟩ := (unhide hls).step (P' := fun J => ∀ j, j < k + 1 → uIn (chunk P j) ∈ J) st1 (fun k e => ((unhide hrow).lt k e).2) (unhide hnew)
        have L2 := hide l2
        clear st1 l2 rP
        go_wp2_with fail
        refine (unhide cY _).mono ?_
        rintro e w2 ⟨rfl, d2⟩
        have r2 := hide ((unhide r1).below d2)
        have L3 := hide ((unhide L2).below d2)
        have p2 := (unhide L3).at (unhide Q0) (unhide HN0)
        clear d2
        go_wp2_with (refine wpList_load_row rfl 23 (.tmp 5) rfl w.heap.size rfl 23 _ (0, 0) _ p2 Tryd.underlying23 rfl hi0 ?_)
        refine (unhide cB _).mono ?_
        rintro e w3 ⟨rfl, d3⟩
        have r3 := hide ((unhide r2).below d3)
        have L4 := hide ((unhide L3).below d3)
        clear p2 d3
        go_wp2_with (refine wpList_load_mid_gv rfl 23 (.tmp 50) rfl g2 (o2 + k * 32) rfl (Lib.byteCells OC) _ ((unhide hbytesO) _ (unhide L4).2.1) Tryd.underlying23 rfl hiO ?_)
        refine (unhide cZ _).mono ?_
        rintro e w5 ⟨rfl, d5⟩
        have r5 := hide ((unhide r3).below d5)
        have L5 := hide ((unhide L4).below d5)
        clear d5
        go_wp2_with (first
          | (at_builtin; (refine wpList_append_at rfl (.tmp 47) (.tmp 52) rfl X.heap.size A u10 rfl OC (unhide r5) (unhide L5).2.1.size rfl (by (try simp only [List.length_append]); have := unhide hlh; have := unhide HcP; have := unhide HcO; omega) ?_); intro v6 w6 r6 g6 a6; have L6 := hide ((unhide L5).grow (v := u10) (v' := v6) (fun k e => ((unhide r5).lt k e).1) g6 a6); have R6 := hide r6; clear r6 g6 a6)
          | (at_builtin; (refine wpList_append_at rfl (.tmp 54) (.tmp 55) rfl X.heap.size (A ++ OC) v6 rfl PD (unhide R6) (unhide L6).2.1.size rfl (by (try simp only [List.length_append]); have := unhide hlh; have := unhide HcP; have := unhide HcO; omega) ?_); intro v7 w7 r7 g7 a7; have L7 := hide ((unhide L6).grow (v := v6) (v' := v7) (fun k e => ((unhide R6).lt k e).1) g7 a7); have R7 := hide r7; clear r7 g7 a7))
        go_roundw
        case rel => exact ⟨k + 1, S2, _, by omega, by go_num, by rw [unhide hs1h, ← List.append_assoc]; exact R7, L7⟩
        case measure => simp [intOf]; omega
    · have hd1 : decide ((k : Int) < 32) = false := by simp; omega
      have hk32 : k = 32 := by omega
      subst hk32
      have hcv := (unhide hrow).convert
      have q1 := (unhide hls).at (unhide Q1) (unhide HN1)
      have z1 := (Array.getElem?_eq_some_iff.1 q1).1
      have hn2 : I1.length < 1099511627000 := by have := (unhide hls).2.2.2.2.2.2; have := unhide HII; omega
      have co := hide fun g W hs hl => unhide CO S1 I1 (by omega) g W hs hl
      have L1 := hide ((unhide hls).below ((Below.refl _ wr).alloc (Nat.le_refl _) (.cells #[.string (str (pOpen d P O 32))] 9)))
      generalize pOpen d P O 32 = LL at *
      have hcv2 : (convert 69 9 u10).run Tryd.prog wr = .ok (.string (str LL)) wr := hcv
      clear hn2 hcv hrow hlt hl
      go_wp2_with fail
      refine (unhide co _ _ (strsAt_one wr LL _) (unhide L1).1).mono ?_
      rintro e w3 ⟨rfl, st3⟩
      have q3 : w3.heap[w.heap.size + 1]? = some (.cells (bc (List.replicate 32 0)) 23 (0, 0)) := by
        obtain ⟨_, _, k2, _⟩ := st3
        exact (k2.block (w.heap.size + 1) (by rw [World.size_alloc]; omega) (fun h => ((unhide L1).2.2.1 _ h).elim (unhide HN1) (fun h2 => by have := unhide SX; omega))).trans ((Below.heap_alloc wr (.cells #[.string (str LL)] 9) _ z1).trans q1)
      obtain ⟨S5, l5⟩ := (LS.forget (unhide L1)).step (P' := fun J => (∀ j, j < 32 → uIn (chunk P j) ∈ J) ∧ WI ∈ J) st3 (fun k e => by cases e) (fun h => ⟨fun j hj => mem_rnoted_old _ _ _ (h j hj), mem_rnoted _ _⟩)
      have L5 := hide l5
      clear st3 l5 q1 hcv2
      go_wp2_with (refine wpList_store_row rfl 23 (.tmp 8) (.tmp 61) rfl (w.heap.size + 1) _ rfl rfl 23 _ q3 hi1 hz1 ho1 ?_)
      exact bodyPost_ret (results_row_tmp rfl _ _ (w.heap.size + 1) _ _ _ _ rfl (setRow_heap _ _ _ _ _ _ q3) Tryd.underlying23 rfl hi1) rfl ⟨rfl, ((unhide L5).mono (by omega) (fun h => h)).close_row (unhide B0) (unhide HOLD) (w.heap.size + 1) (by omega) (by have := unhide SX; omega) _⟩
end Go.Proofs.YtdlgkmaknoaodaaDoor

namespace Go.Proofs.YtdlgkmaknoaodaaDoor
open Go.RowKit
set_option linter.unusedSimpArgs false
set_option linter.unusedVariables false

theorem wpList_store_new {P : Program} {ops : Array Oper} {rest : List Oper} {op : Oper} {a : Act} {Q : Exit → Act → World → Prop} (hgd : op.guard = none) (ty : TypeId) (x y : Operand) (ho : op.op = .store ty x y)
    (W0 : World) (Z : Array Value) (t : TypeId) (D : List UInt8) (hx : a.eval x = .pointer (some ⟨W0.heap.size, 0, none⟩)) (hy : a.eval y = .agg (bc D))
    (hi : (P.info? ty).map (·.size) = some (bc D).size) (hz : Z.size = (bc D).size)
    (h : ∀ w', w'.heap[W0.heap.size]? = some (.cells (bc D) t (0, 0)) → Below W0.heap.size W0 w' → w'.heap.size = W0.heap.size + 1 → wpList P ops Q rest (a.put op.dst undef) w') :
    wpList P ops Q (op :: rest) a (W0.alloc (.cells Z t)) := by
  refine wpList_store_row hgd ty x y ho W0.heap.size (bc D) hx hy t Z (al1 _ _) hi hz (bc_oneCell D) ?_
  exact h _ (setRow_heap _ _ _ _ _ _ (al1 W0 (.cells Z t))) (below_setRow ((Below.refl _ _).alloc (Nat.le_refl _) _) (Nat.le_refl _) _) (by rw [setRow_size, World.size_alloc])
end Go.Proofs.YtdlgkmaknoaodaaDoor

namespace Go.Proofs.YtdlgkmaknoaodaaDoor
open Go Go.RowKit
set_option linter.unusedSimpArgs false
set_option linter.unusedVariables false

theorem digest_eql (d : List UInt8) (hd : d.length = 32) (w : World) : (binOp .eql 23 (.agg (bc d)) (.agg (bc d))).run Tryd.prog w = .ok (.bool true) w := by
  obtain ⟨la, hla⟩ := keyLits_ints (P := Tryd.prog) 23 5 32 .u8 Tryd.underlying23 Tryd.underlying5 (by kernel_rfl) (by kernel_rfl) (d.map fun b => (b.toNat : Int)) (by simpa using hd) (fun z hz => by
    obtain ⟨b, _, rfl⟩ := List.mem_map.1 hz
    have := b.toNat_lt
    simp [Lit.wf, IntKind.min, IntKind.max, IntKind.signed, IntKind.bits]; omega)
  refine eql_refl 23 2 2 (by omega) (by kernel_rfl) _ ?_ la ?_ w
  · simp only [Value.formed, Tryd.underlying23, bc_size, hd]; kernel_rfl
  · rw [← hla]; simp [bc, Lib.byteCells]; rfl
theorem flat_chunk (f : Nat → List UInt8) (hf : ∀ j, (f j).length = 32) : ∀ k i, i < k → chunk ((List.range k).flatMap f) i = f i
  | 0, i, h => absurd h (Nat.not_lt_zero _)
  | k + 1, i, h => by
    have hl := flat32 f hf k
    rw [List.range_succ, List.flatMap_append]
    by_cases hi : i < k
    · have ih := flat_chunk f hf k i hi
      unfold chunk at ih ⊢
      rw [List.drop_append_of_le_length (by omega), List.take_append_of_le_length (by rw [List.length_drop]; omega)]
      exact ih
    · obtain rfl : i = k := by omega
      unfold chunk
      rw [show 32 * i = ((List.range i).flatMap f).length by omega, List.drop_left]
      simp [List.take_of_length_le, hf]
theorem open_at (seed : List UInt8) (index : Nat) (d : List UInt8) (i : Nat) (hi : i < 32) : openAt d (pParts seed index d 32) (pOthers seed index d 32) i = pubAt seed index (2 * i) ++ pubAt seed index (2 * i + 1) := by
  have h1 : chunk (pParts seed index d 32) i = partAt seed index d i := flat_chunk _ (fun j => pSecret_length _ _ _ _) 32 i hi
  have h2 : chunk (pOthers seed index d 32) i = otherAt seed index d i := flat_chunk _ (fun j => pPublic_length _) 32 i hi
  have hb := pBit_lt d i
  unfold openAt
  rw [h1, h2]
  unfold partAt otherAt pubAt
  rw [show 2 * i / 2 = i by omega, show 2 * i % 2 = 0 by omega, show (2 * i + 1) / 2 = i by omega, show (2 * i + 1) % 2 = 1 by omega]
  by_cases h0 : pBit d i = 0
  · rw [if_pos h0, h0]
  · have h1 : pBit d i = 1 := by omega
    rw [if_neg h0, h1]
theorem open_sign (seed : List UInt8) (index : Nat) (d : List UInt8) : ∀ k, k ≤ 32 → pOpen d (pParts seed index d 32) (pOthers seed index d 32) k = pubs seed index (2 * k)
  | 0, _ => rfl
  | k + 1, h => by
    rw [pOpen_succ, open_sign seed index d k (by omega), open_at seed index d k (by omega), show 2 * (k + 1) = 2 * k + 1 + 1 by omega, pubs_succ, pubs_succ, List.append_assoc]
theorem open_word (seed : List UInt8) (index : Nat) (d : List UInt8) : pWordOf (pOpen d (pParts seed index d 32) (pOthers seed index d 32) 32) = pWord seed index := by
  rw [open_sign seed index d 32 (by omega)]; rfl
theorem bytes_of_row {w : World} {g : Nat} {L : List UInt8} {t : TypeId} (h : w.heap[g]? = some (.cells (bc L) t (0, 0))) : Bytes w g 0 L := fun j hj => by
  rw [Nat.zero_add, cell_of_row _ _ _ _ _ _ h, bc_at _ _ hj]
/-- What was signed is opened to the word, whatever lies between. -/
theorem opens_calls (seed : List UInt8) (d : List UInt8) (hd : d.length = 32) (index g : Nat) (w : World) (q1 : w.heap[g]? = some (.cells (bc (pParts seed index d 32)) 23 (0, 0))) (q2 : w.heap[g + 1]? = some (.cells (bc (pOthers seed index d 32)) 23 (0, 0))) (tabs : Tabs w) :
    Calls Tryd.prog 20 #[.pointer none, .agg (bc d), .slice (some ⟨g, 0, none⟩) 32 32, .slice (some ⟨g + 1, 0, none⟩) 32 32] w fun e w' => e = .returned (.tuple #[.agg (bc (pWord seed index)), .bool true]) ∧ Below w.heap.size w w' := by
  have h := opened_calls d hd (pParts seed index d 32) (pOthers seed index d 32) (pParts_length _ _ _ _) (pOthers_length _ _ _ _) g 0 32 (g + 1) 0 32 w (Array.getElem?_eq_some_iff.1 q1).1 (Array.getElem?_eq_some_iff.1 q2).1 (bytes_of_row q1) (bytes_of_row q2) tabs
  rw [open_word] at h
  exact h
def awakeCells : Array Value := #[.int .u8 128, .int .u8 0, .int .u8 0, .int .u8 0, .int .u8 0, .int .u8 0, .int .u8 0, .int .u8 0, .int .u8 0, .int .u8 0, .int .u8 0, .int .u8 0, .int .u8 0, .int .u8 0, .int .u8 0, .int .u8 0, .int .u8 0, .int .u8 0, .int .u8 0, .int .u8 0, .int .u8 0, .int .u8 0, .int .u8 0, .int .u8 0, .int .u8 0, .int .u8 0, .int .u8 0, .int .u8 0, .int .u8 0, .int .u8 0, .int .u8 0, .int .u8 0]
set_option maxHeartbeats 1000000 in
set_option maxRecDepth 100000 in
theorem lawake_of (AD : List UInt8) (hd : AD.length = 32) (hbit : pBit AD 0 = 1) (hlit : awakeCells = bc AD) (w : World) (tabs : Tabs w) :
    Calls Tryd.prog 7 #[] w fun e w' => e = .returned (.bool true) ∧ Below w.heap.size w w' := by
  have hi0 := digInfo AD hd
  have hz0 := zeroSize AD hd
  have ho0 := bc_oneCell AD
  have cS := fun w tabs => sign_calls AD hd AD hd 1 1 (by decide) w tabs
  have cO := fun g w q1 q2 tabs => opens_calls AD AD hd 1 g w q1 q2 tabs
  have cW := fun w tabs => word_calls AD hd 1 1 (by decide) w tabs
  have cB := fun w => bit_calls AD hd 0 (by decide) w
  rw [hbit] at cB
  have hW : (pWord AD 1).length = 32 := pOf_length _ _
  have hi1 := digInfo (pWord AD 1) hW
  have hz1 := zeroSize (pWord AD 1) hW
  have ho1 := bc_oneCell (pWord AD 1)
  have eqW := digest_eql (pWord AD 1) hW
  generalize pWord AD 1 = WD at *
  have CS := hide cS
  have CO := hide cO
  have CW := hide cW
  have CB := hide cB
  have HT := hide tabs
  have HLit := hide hlit
  clear cS cO cW cB tabs hbit hlit
  go_enter Tryd.func7, Tryd.ntmps7
  go_wp2_with (first
    | (refine wpList_store_new rfl 23 (.tmp 1) (.tmp 6) rfl w _ _ AD rfl (congrArg Value.agg (unhide HLit)) hi0 hz0 ?_; intro W1 qw hbw zw)
    | (refine wpList_load_row rfl 23 (.tmp 1) rfl w.heap.size rfl 23 _ (0, 0) _ qw Tryd.underlying23 rfl hi0 ?_))
  refine (unhide CS _ ((unhide HT).below hbw (Nat.le_refl _))).mono ?_
  rintro e w2 ⟨g, hg, rfl, b2, q1, q2⟩
  have q0 := Below.at b2 (by omega) qw
  have hb2 := hbw.trans (b2.mono (by omega))
  have hg1 : g + 1 < w2.heap.size := (Array.getElem?_eq_some_iff.1 q2).1
  have tb2 := (unhide HT).below hb2 (Nat.le_refl _)
  clear b2 qw hbw
  go_wp2_with (refine wpList_load_row rfl 23 (.tmp 1) rfl w.heap.size rfl 23 _ (0, 0) _ q0 Tryd.underlying23 rfl hi0 ?_)
  refine (unhide CO g _ q1 q2 tb2).mono ?_
  rintro e w3 ⟨rfl, b3⟩
  have q3 := Below.at b3 (by omega) q0
  have hb3 := hb2.trans (b3.mono (by omega))
  have z3 : w.heap.size < w3.heap.size := by have := b3.size; omega
  clear q0 q1 q2 hb2 tb2 b3
  go_wp2_with (refine wpList_store_new rfl 23 (.tmp 4) (.tmp 18) rfl w3 _ _ WD rfl rfl hi1 hz1 ?_; intro w4 q4 hb4 z4)
  have r4 := Below.at hb4 z3 q3
  have hb5 := hb3.trans (hb4.mono (by omega))
  have tb5 := (unhide HT).below hb5 (Nat.le_refl _)
  have kB : Hid (∀ dd os, Calls Tryd.prog 12 #[.agg (bc AD), .int .i64 0] (Sort.grow (redrawn w4 dd) os) fun e w'' => e = .returned (.int .i64 1) ∧ ∃ p : Regrown, w'' = Sort.grow (redrawn w4 p.d) p.os) := fun dd os => Calls.regrown_of (unhide CB _)
  have kW : Hid (∀ dd os, Calls Tryd.prog 16 #[.pointer none, .agg (bc AD), .int .i64 1] (Sort.grow (redrawn w4 dd) os) fun e w'' => e = .returned (.agg (bc WD)) ∧ ∃ p : Regrown, w'' = Sort.grow (redrawn w4 p.d) p.os) := fun dd os => Calls.regrown_of (unhide CW _ (tb5.below (below_regrown w4 dd os) (Nat.le_refl _)))
  have rowA : Hid (∀ w', (∃ p : Regrown, w' = Sort.grow (redrawn w4 p.d) p.os) → w'.heap[w.heap.size]? = some (.cells (bc AD) 23 (0, 0))) := fun w' ⟨p, hp⟩ => by
    rw [hp]; exact Below.at (below_regrown w4 p.d p.os) (by omega) r4
  have rowW : Hid (∀ w', (∃ p : Regrown, w' = Sort.grow (redrawn w4 p.d) p.os) → w'.heap[w3.heap.size]? = some (.cells (bc WD) 23 (0, 0))) := fun w' ⟨p, hp⟩ => by
    rw [hp]; exact Below.at (below_regrown w4 p.d p.os) (by omega) q4
  have HB5 := hide hb5
  clear r4 q4 q3 hb3 hb4 hb5 tb5 HLit
  refine wp_region_below mixed (by kernel_rfl) ?_
  refine wpQuiet_load_row rfl 23 (.tmp 1) rfl w.heap.size rfl 23 _ (0, 0) _ (unhide rowA) Tryd.underlying23 rfl hi0 ?_
  quiet_step (exact unhide kB _ _)
  quiet_step (fail)
  quiet_step (fail)
  quiet_step (fail)
  quiet_step (fail)
  quiet_step (fail)
  refine wpQuiet_load_row rfl 23 (.tmp 4) rfl w3.heap.size rfl 23 _ (0, 0) _ (unhide rowW) Tryd.underlying23 rfl hi1 ?_
  refine wpQuiet_load_row rfl 23 (.tmp 1) rfl w.heap.size rfl 23 _ (0, 0) _ (unhide rowA) Tryd.underlying23 rfl hi0 ?_
  quiet_step (exact unhide kW _ _)
  refine wpQuiet_eql rfl 23 _ (.tmp 27) (.tmp 29) rfl _ _ rfl rfl Tryd.eqGuardType23 true eqW ?_
  quiet_step (fail)
  quiet_step (fail)
  refine wpQuiet_nil ?_
  intro w6 hb6
  have hb7 := (unhide HB5).trans (hb6.mono (unhide HB5).size)
  go_wp2
  go_ret
  exact ⟨rfl, hb7⟩
theorem lawake_calls (w : World) (tabs : Tabs w) : Calls Tryd.prog 7 #[] w fun e w' => e = .returned (.bool true) ∧ Below w.heap.size w w' :=
  lawake_of (128 :: List.replicate 31 0) rfl (by decide) (by kernel_rfl) w tabs
end Go.Proofs.YtdlgkmaknoaodaaDoor

namespace Go.Proofs.YtdlgkmaknoaodaaDoor
open Go.RowKit
set_option linter.unusedSimpArgs false
set_option linter.unusedVariables false

theorem pBig1_inj {n m : Nat} (hn : n < 256) (hm : m < 256) (h : pBig n 1 = pBig m 1) : n = m := by
  have h0 := congrArg (fun l => l.getD 0 0) h
  simp [pBig] at h0
  have h1 := congrArg UInt8.toNat h0
  rw [UInt8.toNat_ofNat', UInt8.toNat_ofNat'] at h1
  omega
theorem pBig4_inj {n m : Nat} (hn : n < 4294967296) (hm : m < 4294967296) (h : pBig n 4 = pBig m 4) : n = m := by
  have g : ∀ i, i < 4 → n / 2 ^ (8 * (3 - i)) % 256 = m / 2 ^ (8 * (3 - i)) % 256 := fun i hi => by
    have h0 := congrArg (fun l => (l.getD i 0).toNat) h
    simp [pBig, hi] at h0
    exact h0
  have a := g 0 (by omega)
  have b := g 1 (by omega)
  have c := g 2 (by omega)
  have d := g 3 (by omega)
  simp at a b c d
  omega
theorem flatText_inj : ∀ (ps qs : List (List UInt8)), (∀ p ∈ ps, p.length < 4294967296) → (∀ q ∈ qs, q.length < 4294967296) → ps.flatMap pText4 = qs.flatMap pText4 → ps = qs
  | [], [], _, _, _ => rfl
  | [], q :: qs, _, _, h => by
    have := congrArg List.length h
    rw [List.flatMap_cons, List.length_append, pText4_length, List.flatMap_nil, List.length_nil] at this
    omega
  | p :: ps, [], _, _, h => by
    have := congrArg List.length h
    rw [List.flatMap_cons, List.length_append, pText4_length, List.flatMap_nil, List.length_nil] at this
    omega
  | p :: ps, q :: qs, hp, hq, h => by
    have e : ∀ l : List UInt8, pText4 l = pBig l.length 4 ++ l := fun _ => rfl
    rw [List.flatMap_cons, List.flatMap_cons, e, e, List.append_assoc, List.append_assoc] at h
    obtain ⟨h1, h2⟩ := List.append_inj h (by rw [pBig_length, pBig_length])
    have hl := pBig4_inj (hp p (by simp)) (hq q (by simp)) h1
    obtain ⟨h3, h4⟩ := List.append_inj h2 hl
    rw [h3, flatText_inj ps qs (fun x hx => hp x (by simp [hx])) (fun x hx => hq x (by simp [hx])) h4]
theorem pInput_inj {d e : Nat} {ps qs : List (List UInt8)} (hd : d < 256) (he : e < 256) (hp : ∀ p ∈ ps, p.length < 4294967296) (hq : ∀ q ∈ qs, q.length < 4294967296) (h : pInput d ps = pInput e qs) : d = e ∧ ps = qs := by
  unfold pInput at h
  obtain ⟨h1, h2⟩ := List.append_inj h (by rw [pBig_length, pBig_length])
  exact ⟨pBig1_inj hd he h1, flatText_inj ps qs hp hq h2⟩
end Go.Proofs.YtdlgkmaknoaodaaDoor

namespace Go.Proofs.YtdlgkmaknoaodaaDoor
open Go Go.RowKit
set_option linter.unusedSimpArgs false
set_option linter.unusedVariables false

theorem apart_of (J : List (List UInt8)) (h : ¬ cnt J < J.length) (s t : List UInt8) (hs : s ∈ J) (ht : t ∈ J) (he : pSum [s] = pSum [t]) : s = t := Classical.byContradiction fun hne => h (cnt_lt J s t hs ht hne he)
theorem wIn_inj {a b : List UInt8} (ha : a.length = 2048) (hb : b.length = 2048) (h : wIn a = wIn b) : a = b := by
  have := (pInput_inj (by decide) (by decide) (by simp [ha]) (by simp [hb]) h).2
  simpa using this
theorem uIn_inj {a b : List UInt8} (ha : a.length = 32) (hb : b.length = 32) (h : uIn a = uIn b) : a = b := by
  have := (pInput_inj (by decide) (by decide) (by simp [ha]) (by simp [hb]) h).2
  simpa using this
theorem sIn_ne {seed : List UInt8} (hs : seed.length = 32) (index i : Nat) (h : sIn seed index i 0 = sIn seed index i 1) : False := by
  have := (pInput_inj (by decide) (by decide) (by simp [hs, pBig_length]) (by simp [hs, pBig_length]) h).2
  simp [pBig] at this
theorem pubs_two (seed : List UInt8) (index k : Nat) : pubs seed index (2 * (k + 1)) = pubs seed index (2 * k) ++ (pubAt seed index (2 * k) ++ pubAt seed index (2 * k + 1)) := by
  rw [show 2 * (k + 1) = 2 * k + 1 + 1 by omega, pubs_succ, pubs_succ, List.append_assoc]
theorem open_pubs (seed : List UInt8) (index : Nat) (e P O : List UInt8) (hO : O.length = 1024) : ∀ k, k ≤ 32 → pOpen e P O k = pubs seed index (2 * k) → ∀ i, i < k → openAt e P O i = pubAt seed index (2 * i) ++ pubAt seed index (2 * i + 1)
  | 0, _, _, i, hi => by omega
  | k + 1, hk, h, i, hi => by
    rw [pOpen_succ, pubs_two] at h
    obtain ⟨h1, h2⟩ := List.append_inj h (by rw [pOpen_length e P O k (by omega), pubs_length]; omega)
    by_cases e' : i = k
    · rw [e']; exact h2
    · exact open_pubs seed index e P O hO k (by omega) h1 i (by omega)
theorem pubAt_even (seed : List UInt8) (index i : Nat) : pubAt seed index (2 * i) = pPublic (pSecret seed index i 0) := by
  unfold pubAt; rw [show 2 * i / 2 = i by omega, show 2 * i % 2 = 0 by omega]
theorem pubAt_odd (seed : List UInt8) (index i : Nat) : pubAt seed index (2 * i + 1) = pPublic (pSecret seed index i 1) := by
  unfold pubAt; rw [show (2 * i + 1) / 2 = i by omega, show (2 * i + 1) % 2 = 1 by omega]
theorem pubs_apart (seed : List UInt8) (hs : seed.length = 32) (index : Nat) (J : List (List UInt8)) (hap : ¬ cnt J < J.length) (hw : WNoted seed index 64 J) (i : Nat) (hi : i < 32) (h : pPublic (pSecret seed index i 0) = pPublic (pSecret seed index i 1)) : False := by
  have w0 := hw (2 * i) (by omega)
  have w1 := hw (2 * i + 1) (by omega)
  rw [show 2 * i / 2 = i by omega, show 2 * i % 2 = 0 by omega] at w0
  rw [show (2 * i + 1) / 2 = i by omega, show (2 * i + 1) % 2 = 1 by omega] at w1
  have h1 := apart_of J hap _ _ w0.2 w1.2 h
  have h2 := uIn_inj (pSecret_length _ _ _ _) (pSecret_length _ _ _ _) h1
  exact sIn_ne hs index i (apart_of J hap _ _ w0.1 w1.1 h2)
theorem part_chunk (seed : List UInt8) (index : Nat) (d : List UInt8) (i : Nat) (hi : i < 32) : chunk (pParts seed index d 32) i = pSecret seed index i (pBit d i) := flat_chunk (partAt seed index d) (fun j => pSecret_length _ _ _ _) 32 i hi
theorem other_chunk (seed : List UInt8) (index : Nat) (d : List UInt8) (i : Nat) (hi : i < 32) : chunk (pOthers seed index d 32) i = pPublic (pSecret seed index i (1 - pBit d i)) := flat_chunk (otherAt seed index d) (fun j => pPublic_length _) 32 i hi
theorem word_open (seed : List UInt8) (index : Nat) (e P O : List UInt8) (hP : P.length = 1024) (hO : O.length = 1024) (J : List (List UInt8)) (hap : ¬ cnt J < J.length) (h1 : wIn (pubs seed index 64) ∈ J) (h2 : wIn (pOpen e P O 32) ∈ J) (h : pWordOf (pOpen e P O 32) = pWord seed index) : ∀ i, i < 32 → openAt e P O i = pubAt seed index (2 * i) ++ pubAt seed index (2 * i + 1) := by
  have h3 := apart_of J hap _ _ h2 h1 h
  have h4 := wIn_inj (pOpen_length e P O 32 (by omega)) (pubs_length _ _ _) h3
  exact open_pubs seed index e P O hO 32 (Nat.le_refl _) h4
theorem binds_pure (seed : List UInt8) (hs : seed.length = 32) (index : Nat) (d e : List UInt8) (J : List (List UInt8)) (hw : WNoted seed index 64 J) (h1 : wIn (pubs seed index 64) ∈ J) (h2 : wIn (pOpen e (pParts seed index d 32) (pOthers seed index d 32) 32) ∈ J)
    (h : pWordOf (pOpen e (pParts seed index d 32) (pOthers seed index d 32) 32) = pWord seed index) (hne : ¬ ∀ j, j < 32 → pBit d j = pBit e j) : cnt J < J.length := by
  refine Classical.byContradiction fun hap => hne fun i hi => ?_
  have ho := word_open seed index e _ _ (pParts_length _ _ _ _) (pOthers_length _ _ _ _) J hap h1 h2 h i hi
  have hb1 := pBit_lt d i
  have hb2 := pBit_lt e i
  refine Classical.byContradiction fun hbe => pubs_apart seed hs index J hap hw i hi ?_
  unfold openAt at ho
  rw [part_chunk seed index d i hi, other_chunk seed index d i hi, pubAt_even, pubAt_odd] at ho
  by_cases e0 : pBit e i = 0
  · rw [if_pos e0, show pBit d i = 1 by omega] at ho
    exact (List.append_inj ho (by rw [pPublic_length, pPublic_length])).1.symm
  · rw [if_neg e0, show pBit d i = 0 by omega] at ho
    exact (List.append_inj ho (by rw [pPublic_length, pPublic_length])).1.symm
theorem open_same (d e P O : List UInt8) : ∀ k, (∀ j, j < k → pBit d j = pBit e j) → pOpen e P O k = pOpen d P O k
  | 0, _ => rfl
  | k + 1, h => by
    rw [pOpen_succ, pOpen_succ, open_same d e P O k (fun j hj => h j (by omega))]
    unfold openAt
    rw [h k (by omega)]
end Go.Proofs.YtdlgkmaknoaodaaDoor
