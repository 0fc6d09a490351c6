/-
  Burn.
-/
import Derived.Test.YtjfnaedcdmmigaaDoorJ5
import Derived.Test.YtjfnaedcdmmigaaDoorJ3
import Derived.Test.YtjfnaedcdmmigaaDoorJ4
import Derived.Test.YtjfnaedcdmmigaaDoorJ0
import Derived.Deep.MidRow
import Derived.Laws.StructEq
import Derived.Laws.IdiomStrings
/-
  slices.Insert AT TOKENS.
-/
/-
  Enlist.
-/
/-
  A PART OF A ROW LOADED INSIDE A REGION THAT DRAWS ITS ORDER, as a step of the quiet walk. Over whatever program.
-/
/-
  THE DOCUMENT's Same OF TWO PURSES THAT ARE THE SAME.
-/
/-
  WHAT wire's number, Byte, Word, Long, Text RETURN: a number in so many bytes, the highest first.
-/
namespace Go.Proofs.YtjfnaedcdmmigaaDoor
open Go Go.RowKit
set_option linter.unusedSimpArgs false
set_option linter.unusedVariables false

/-- What a Burn leaves. -/
def pBurn (ts : List Tkn) (hs : List Hol) (o : Nat) (n a : List UInt8) (k : Nat) : List Tkn × List Hol × Nat :=
  match pKn ts o n with
  | none => (ts, hs, 40)
  | some t => if (pLess hs o n a k).2 = 0 then (if t.bu + k < 18446744073709551616 then (pSetT ts { t with bu := t.bu + k }, (pLess hs o n a k).1, 0) else (ts, hs, 10)) else (ts, (pLess hs o n a k).1, (pLess hs o n a k).2)
set_option maxHeartbeats 4000000 in
set_option maxRecDepth 1000000 in
theorem burn_calls (ts : List Tkn) (hs : List Hol) (hn1 : ts.length ≤ 1000) (hn2 : hs.length ≤ 999) (htk : ∀ t ∈ ts, t.ok) (hok : ∀ h ∈ hs, h.ok) (v : Value) (o : Nat) (n a : List UInt8) (hnl : n.length ≤ 1000) (hal : a.length ≤ 1000) (k : Nat) (hk : k < 18446744073709551616) (w : World) (hU : UTabs w) (hP : PM w v ts hs) :
    Calls Tryd.prog 21 #[v, .int .u32 (o : Int), .string (str n), .string (str a), .int .u64 (k : Int)] w fun e w' => (∃ v', e = .returned (.tuple #[v', .int .i64 ((pBurn ts hs o n a k).2.2 : Int)]) ∧ PO w' w.heap.size v' (pBurn ts hs o n a k).1 (pBurn ts hs o n a k).2.1) ∧ Below w.heap.size w w' := by
  obtain ⟨p1, c1, p2, c2, rfl, hT, hH⟩ := hP
  obtain ⟨q0, q1⟩ := al2 w (.cells #[.slice p1 ts.length c1, .slice p2 hs.length c2] 27) (.cells zPur 27)
  have b0 := bel2 w (.cells #[.slice p1 ts.length c1, .slice p2 hs.length c2] 27) (.cells zPur 27)
  have sX : ((w.alloc (.cells #[.slice p1 ts.length c1, .slice p2 hs.length c2] 27)).alloc (.cells zPur 27)).heap.size = w.heap.size + 1 + 1 := by simp
  obtain ⟨X, hX⟩ : ∃ X, (w.alloc (.cells #[.slice p1 ts.length c1, .slice p2 hs.length c2] 27)).alloc (.cells zPur 27) = X := ⟨_, rfl⟩
  have HX := hide hX
  rw [hX] at q0 q1 b0 sX
  have PX : PM X (.agg #[.slice p1 ts.length c1, .slice p2 hs.length c2]) ts hs := ⟨p1, c1, p2, c2, rfl, hT.below b0, hH.below b0⟩
  have CN := hide (known_calls ts hs hn1 (by omega) _ o n X PX)
  have CT := hide fun W (hW : Below X.heap.size X W) => twin_calls ts hs hn1 (by omega) _ W (PX.below hW)
  have QR := hide q1
  have Q0 := hide q0
  have B0 := hide b0
  have SX := hide sX
  have PS := hide fun v1 v2 => purSz v1 v2
  cases hK : pKn ts o n with
  | none =>
    have hR : pBurn ts hs o n a k = (ts, hs, 40) := by unfold pBurn; rw [hK]
    rw [hR]
    rw [hK, Option.getD_none, Option.isSome_none] at CN
    obtain ⟨TT, hTT⟩ : ∃ t, zTok = t := ⟨_, rfl⟩
    rw [hTT] at CN
    clear hT hH hX PX q1 b0 sX hn1 hn2 hok htk hnl hal hU hR hk hTT hK
    unfold zPur at HX
    go_enter Tryd.func21, Tryd.ntmps21
    go_upto_region 1 with fail
    change Code.wp _ _ _ _ ((w.alloc (.cells #[.slice p1 ts.length c1, .slice p2 hs.length c2] 27)).alloc (.cells #[.slice none 0 0, .slice none 0 0] 27))
    rw [unhide HX]
    go_wp2_with (refine wpList_load_row rfl 27 (.tmp 5) rfl w.heap.size rfl 27 _ (0, 0) _ q0 Tryd.underlying27 rfl (unhide PS _ _) ?_)
    refine (unhide CN).mono ?_
    rintro e w2 ⟨rfl, b2⟩
    have S2 : Hid (Below X.heap.size X w2) := hide b2
    have tinf := tokSz TT
    have tone := tokOne TT
    clear b2 CN q0
    go_upto_region 2 with (refine wpList_store_newV rfl 38 (.tmp 12) (.tmp 21) rfl w2 _ _ (tokC TT).toArray rfl rfl tinf rfl tone ?_; intro w3 q3 b3 z3)
    have S3 : Hid (Below X.heap.size X w3) := hide ((unhide S2).trans (b3.mono (unhide S2).size))
    have HGB : Hid (X.heap.size ≤ w2.heap.size) := hide (unhide S2).size
    obtain ⟨G, hG⟩ : ∃ G, w2.heap.size = G := ⟨_, rfl⟩
    rw [hG] at q3 HGB
    simp only [hG]
    clear b3 z3 S2 hG tinf tone
    have k0 := Below.at (unhide S3) (by have := unhide SX; omega) (unhide Q0)
    clear q3 HGB
    go_wp2_with (refine wpList_load_row rfl 27 (.tmp 5) rfl w.heap.size rfl 27 _ (0, 0) _ k0 Tryd.underlying27 rfl (unhide PS _ _) ?_)
    refine (unhide CT _ (unhide S3)).mono ?_
    rintro e wz ⟨⟨v', rfl, po⟩, bz⟩
    obtain ⟨u1, u2, rfl, one⟩ := po.parts
    have SZ := (unhide S3).trans (bz.mono (unhide S3).size)
    have rz := Below.at SZ (by have := unhide SX; omega) (unhide QR)
    have F := hide (out_set (C := w.heap.size) po (by have := (unhide S3).size; have := (unhide B0).size; omega) (by omega) rz ((unhide B0).trans (SZ.mono (unhide B0).size)) #[u1, u2])
    clear po bz SZ k0
    go_wp2_with (refine wpList_store_row rfl 27 (.tmp 10) (.tmp 26) rfl (w.heap.size + 1) _ rfl rfl 27 _ rz (unhide PS _ _) rfl one ?_)
    exact bodyPost_ret (results_row_tmp rfl _ _ (w.heap.size + 1) _ _ _ _ rfl (setRow_heap _ _ _ _ _ _ rz) Tryd.underlying27 rfl (unhide PS _ _)) rfl ⟨⟨_, rfl, (unhide F).1⟩, (unhide F).2⟩
  | some t =>
    have hkey := kn_key hK
    have hto := htk t hkey.2.2
    rw [hK, Option.getD_some, Option.isSome_some] at CN
    have hR : pBurn ts hs o n a k = if (pLess hs o n a k).2 = 0 then (if t.bu + k < 18446744073709551616 then (pSetT ts { t with bu := t.bu + k }, (pLess hs o n a k).1, 0) else (ts, hs, 10)) else (ts, (pLess hs o n a k).1, (pLess hs o n a k).2) := by unfold pBurn; rw [hK]
    have HL := hide hR
    obtain ⟨R, hRR⟩ : ∃ R, pBurn ts hs o n a k = R := ⟨_, rfl⟩
    rw [hRR] at HL
    rw [hRR]
    have CK := hide fun W => keyOf_calls t W
    rw [hkey.1, hkey.2.1] at CK
    have CA := hide fun W => amtAdd_calls t.bu k (by have := hto.u; omega) hk W
    have CL0 := hide fun W (hW : Below X.heap.size X W) => less_calls ts hs hn1 (by omega) hok _ o n a hnl hal k hk W ((hU.below' b0).below' hW) (PX.below hW)
    have hll := pLess_len hs o n a k
    have hfi := kn_idx (ts := ts) (o := o) (n := n) (by rw [hK]; rfl)
    have CW := hide fun (m : Nat) v' W (hP : PM W v' ts (pLess hs o n a k).1) => withToken_calls ts (pLess hs o n a k).1 hn1 (by omega) v' { t with bu := m } (by show ts.findIdx (isT t.o t.n) < ts.length; rw [hkey.1, hkey.2.1]; exact hfi) W hP
    have hkv : hkv o n a = #[.int .u32 (o : Int), .string (str n), .string (str a)] := rfl
    have htv : tkv o n = #[.int .u32 (o : Int), .string (str n)] := rfl
    rw [htv] at CK
    rw [hkv] at CL0
    obtain ⟨LH, hLH⟩ : ∃ x, (pLess hs o n a k).1 = x := ⟨_, rfl⟩
    obtain ⟨LE, hLE⟩ : ∃ x, (pLess hs o n a k).2 = x := ⟨_, rfl⟩
    rw [hLH, hLE] at HL CL0
    rw [hLH] at CW
    clear hT hH hX PX q1 b0 sX hn1 hn2 hok htk hnl hal hU hR hk hRR hkey hto hK hll hfi hkv htv hLH hLE
    unfold zPur at HX
    go_enter Tryd.func21, Tryd.ntmps21
    go_upto_region 1 with fail
    change Code.wp _ _ _ _ ((w.alloc (.cells #[.slice p1 ts.length c1, .slice p2 hs.length c2] 27)).alloc (.cells #[.slice none 0 0, .slice none 0 0] 27))
    rw [unhide HX]
    go_wp2_with (refine wpList_load_row rfl 27 (.tmp 5) rfl w.heap.size rfl 27 _ (0, 0) _ q0 Tryd.underlying27 rfl (unhide PS _ _) ?_)
    refine (unhide CN).mono ?_
    rintro e w2 ⟨rfl, b2⟩
    have S2 : Hid (Below X.heap.size X w2) := hide b2
    have tinf := tokSz t
    have tone := tokOne t
    clear b2 CN q0
    go_upto_region 2 with (refine wpList_store_newV rfl 38 (.tmp 12) (.tmp 21) rfl w2 _ _ (tokC t).toArray rfl rfl tinf rfl tone ?_; intro w3 q3 b3 z3)
    have S3 : Hid (Below X.heap.size X w3) := hide ((unhide S2).trans (b3.mono (unhide S2).size))
    have HGB : Hid (X.heap.size ≤ w2.heap.size) := hide (unhide S2).size
    obtain ⟨G, hG⟩ : ∃ G, w2.heap.size = G := ⟨_, rfl⟩
    rw [hG] at q3 HGB
    simp only [hG]
    clear b3 z3 S2 hG tinf tone
    have k0 := Below.at (unhide S3) (by have := unhide SX; omega) (unhide Q0)
    have CL := hide fun W (hW : Below w3.heap.size w3 W) => unhide CL0 W ((unhide S3).trans (hW.mono (unhide S3).size))
    have LP : Hid (∀ W, Below w3.heap.size w3 W → W.heap[w.heap.size]? = some (.cells #[.slice p1 ts.length c1, .slice p2 hs.length c2] 27 (0, 0))) := hide fun W hW => Below.at hW (Array.getElem?_eq_some_iff.1 k0).1 k0
    have LT : Hid (∀ W, Below w3.heap.size w3 W → W.heap[G]? = some (.cells (tokC t).toArray 38 (0, 0))) := hide fun W hW => Below.at hW (Array.getElem?_eq_some_iff.1 q3).1 q3
    have HGW : Hid (G < w3.heap.size) := hide (Array.getElem?_eq_some_iff.1 q3).1
    clear CL0 k0 q3
    go_upto_region 4 with fail
    go_cut [14, 15] (fun x y wc => ∃ (H : Nat) (u1 u2 : Value), x = .pointer (some ⟨H, 0, none⟩) ∧ y = .int .i64 (LE : Int) ∧ Below w3.heap.size w3 wc ∧ wc.heap[H]? = some (.cells #[u1, u2] 27 (0, 0)) ∧ PO wc w3.heap.size (.agg #[u1, u2]) ts LH ∧ w3.heap.size ≤ H ∧ (#[u1, u2] : Array Value).all (·.oneCell') = true)
    case first =>
      have hS0 : Below w3.heap.size w3 ({ w3 with drawn := w3.drawn + 1 } : World) := ⟨rfl, rfl, rfl, Nat.le_refl _, fun _ _ => rfl⟩
      refine wp_region_held (S := fun W => Below w3.heap.size w3 W) mixed ?_
      obtain ⟨d0, hd0⟩ : ∃ d, { w3 with drawn := w3.drawn + 1 } = d := ⟨_, rfl⟩
      rw [hd0] at hS0
      rw [hd0]
      clear hd0
      refine wpAnyH_take (i := 0) rfl (by kernel_rfl) (by kernel_rfl) (by kernel_rfl) (fun _ _ _ h => h) (yields_row (by kernel_rfl) 27 (.tmp 5) rfl w.heap.size (by kernel_rfl) 27 _ (0, 0) _ (fun W hW => unhide LP W hW) Tryd.underlying27 rfl (unhide PS _ _)) hS0 ?_
      refine wpAnyH_take (i := 1) rfl (by kernel_rfl) (by kernel_rfl) (by kernel_rfl) (fun _ _ _ h => h) (yields_row (by kernel_rfl) 38 (.tmp 12) rfl G (by kernel_rfl) 38 _ (0, 0) _ (fun W hW => unhide LT W hW) Tryd.underlying38 rfl (tokSz t)) hS0 ?_
      refine wpAnyH_take (i := 3) (v := .string (str a)) rfl (by kernel_rfl) (by kernel_rfl) (by kernel_rfl) (fun _ _ _ h => h) (.inl ⟨by kernel_rfl, fun W _ => by kernel_rfl⟩) hS0 ?_
      refine wpAnyH_take (i := 5) (v := .int .u64 (k : Int)) rfl (by kernel_rfl) (by kernel_rfl) (by kernel_rfl) (fun _ _ _ h => h) (.inl ⟨by kernel_rfl, fun W _ => by kernel_rfl⟩) hS0 ?_
      have Sd0 := hide hS0
      clear hS0
      refine wpAnyH_two 2 10 _ _ (by kernel_rfl) rfl rfl ?_ ?_
      · go_wp2_with fail
        refine (unhide CK _).mono ?_
        rintro e y1 ⟨rfl, bz⟩
        have Sy1 : Hid (Below w3.heap.size w3 y1) := hide ((unhide Sd0).trans (bz.mono (unhide Sd0).size))
        clear bz
        go_wp2
        refine ⟨unhide Sy1, ?_⟩
        refine wpAnyH_take (i := 4) (v := .agg #[.int .u32 (o : Int), .string (str n), .string (str a)]) rfl (by kernel_rfl) (by kernel_rfl) (by kernel_rfl) (fun _ _ _ h => h) (yields_build (by kernel_rfl) 81 #[(0, .tmp 30), (1, .tmp 31)] rfl #[.int .u32 (o : Int), .string (str n), .string (str a)] (by kernel_rfl)) (unhide Sy1) ?_
        refine wpAnyH_two 6 10 _ _ (by kernel_rfl) rfl rfl ?_ ?_
        · go_wp2_with fail
          refine (unhide CL _ (unhide Sy1)).mono ?_
          rintro e y2 ⟨⟨v', rfl, po⟩, bz⟩
          obtain ⟨u1, u2, rfl, one⟩ := po.parts
          have Sy2 : Hid (Below w3.heap.size w3 y2) := hide ((unhide Sy1).trans (bz.mono (unhide Sy1).size))
          have Py2 := hide (po.base (unhide Sy1).size)
          clear bz po
          go_wp2
          refine ⟨unhide Sy2, ?_⟩
          refine wpAnyH_take (i := 7) (v := .tuple #[.agg #[u1, u2], .int .i64 (LE : Int)]) rfl (by kernel_rfl) (by kernel_rfl) (by kernel_rfl) (fun _ _ _ h => h) (.inl ⟨by kernel_rfl, fun W _ => by kernel_rfl⟩) (unhide Sy2) ?_
          refine wpAnyH_take (i := 8) (v := .agg #[u1, u2]) rfl (by kernel_rfl) (by kernel_rfl) (by kernel_rfl) (fun _ _ _ h => h) (.inl ⟨by kernel_rfl, fun W _ => by kernel_rfl⟩) (unhide Sy2) ?_
          refine wpAnyH_take (i := 9) (v := .int .i64 (LE : Int)) rfl (by kernel_rfl) (by kernel_rfl) (by kernel_rfl) (fun _ _ _ h => h) (.inl ⟨by kernel_rfl, fun W _ => by kernel_rfl⟩) (unhide Sy2) ?_
          refine wpAnyH_one 10 _ (by kernel_rfl) rfl ?_
          go_wp2
          have SA : Hid (Below w3.heap.size w3 (y2.alloc (.cells zPur 27))) := hide ((unhide Sy2).alloc (unhide Sy2).size _)
          have RA := hide (al1 y2 (.cells zPur 27))
          have hHz : Hid (w3.heap.size ≤ y2.heap.size) := hide (unhide Sy2).size
          have bA : Below y2.heap.size y2 (y2.alloc (.cells zPur 27)) := (Below.refl _ _).alloc (Nat.le_refl _) _
          refine ⟨unhide SA, ?_⟩
          change wpAnyH _ _ _ _ _ _ _ _ (y2.alloc (.cells zPur 27))
          obtain ⟨y3, hY⟩ : ∃ Y, y2.alloc (.cells zPur 27) = Y := ⟨_, rfl⟩
          rw [hY] at SA RA bA
          rw [hY]
          have Sy3 := SA
          have Ry3 := RA
          have Py3 := hide ((unhide Py2).below bA)
          obtain ⟨H, hH⟩ : ∃ H, y2.heap.size = H := ⟨_, rfl⟩
          rw [hH] at Ry3 hHz
          rw [hH]
          clear hY SA RA bA hH
          refine wpAnyH_one 11 _ (by kernel_rfl) rfl ?_
          have r1 := setRow_heap _ _ _ #[u1, u2] _ _ (unhide Ry3)
          have p1 := (unhide Py3).other (w' := y3.setRow H #[u1, u2]) (fun k hk => setRow_other _ _ _ _ hk) _ _ (by decide) (by decide) (unhide Ry3)
          have s1 : Hid (Below w3.heap.size w3 (y3.setRow H #[u1, u2])) := hide ((unhide Sy3).trans (below_setRow (Below.refl _ _) (unhide hHz) _))
          refine wpList_store_row rfl 27 (.tmp 14) (.tmp 35) rfl H #[u1, u2] rfl rfl 27 _ (unhide Ry3) (unhide PS _ _) rfl one ?_
          go_wp2
          refine ⟨unhide s1, ?_⟩
          refine wpAnyH_one 12 _ (by kernel_rfl) rfl ?_
          go_wp2
          refine ⟨unhide s1, wpAnyH_done (by kernel_rfl) ?_ _⟩
          go_wp2
          go_meet
          case rel => exact ⟨H, u1, u2, rfl, rfl, unhide s1, r1, p1, unhide hHz, one⟩
        · go_wp2
          have SA : Hid (Below w3.heap.size w3 (y1.alloc (.cells zPur 27))) := hide ((unhide Sy1).alloc (unhide Sy1).size _)
          have RA := hide (al1 y1 (.cells zPur 27))
          have hHz : Hid (w3.heap.size ≤ y1.heap.size) := hide (unhide Sy1).size
          have bA : Below y1.heap.size y1 (y1.alloc (.cells zPur 27)) := (Below.refl _ _).alloc (Nat.le_refl _) _
          refine ⟨unhide SA, ?_⟩
          change wpAnyH _ _ _ _ _ _ _ _ (y1.alloc (.cells zPur 27))
          obtain ⟨y2, hY⟩ : ∃ Y, y1.alloc (.cells zPur 27) = Y := ⟨_, rfl⟩
          rw [hY] at SA RA bA
          rw [hY]
          have Sy2 := SA
          have Ry2 := RA
          obtain ⟨H, hH⟩ : ∃ H, y1.heap.size = H := ⟨_, rfl⟩
          rw [hH] at Ry2 hHz
          rw [hH]
          clear hY SA RA bA hH
          refine wpAnyH_one 6 _ (by kernel_rfl) rfl ?_
          go_wp2_with fail
          refine (unhide CL _ (unhide Sy2)).mono ?_
          rintro e y3 ⟨⟨v', rfl, po⟩, bz⟩
          obtain ⟨u1, u2, rfl, one⟩ := po.parts
          have Sy3 : Hid (Below w3.heap.size w3 y3) := hide ((unhide Sy2).trans (bz.mono (unhide Sy2).size))
          have Py3 := hide (po.base (unhide Sy2).size)
          have Ry3 := hide (Below.at bz (Array.getElem?_eq_some_iff.1 (unhide Ry2)).1 (unhide Ry2))
          clear bz po
          go_wp2
          refine ⟨unhide Sy3, ?_⟩
          refine wpAnyH_take (i := 7) (v := .tuple #[.agg #[u1, u2], .int .i64 (LE : Int)]) rfl (by kernel_rfl) (by kernel_rfl) (by kernel_rfl) (fun _ _ _ h => h) (.inl ⟨by kernel_rfl, fun W _ => by kernel_rfl⟩) (unhide Sy3) ?_
          refine wpAnyH_take (i := 8) (v := .agg #[u1, u2]) rfl (by kernel_rfl) (by kernel_rfl) (by kernel_rfl) (fun _ _ _ h => h) (.inl ⟨by kernel_rfl, fun W _ => by kernel_rfl⟩) (unhide Sy3) ?_
          refine wpAnyH_take (i := 9) (v := .int .i64 (LE : Int)) rfl (by kernel_rfl) (by kernel_rfl) (by kernel_rfl) (fun _ _ _ h => h) (.inl ⟨by kernel_rfl, fun W _ => by kernel_rfl⟩) (unhide Sy3) ?_
          refine wpAnyH_one 11 _ (by kernel_rfl) rfl ?_
          have r1 := setRow_heap _ _ _ #[u1, u2] _ _ (unhide Ry3)
          have p1 := (unhide Py3).other (w' := y3.setRow H #[u1, u2]) (fun k hk => setRow_other _ _ _ _ hk) _ _ (by decide) (by decide) (unhide Ry3)
          have s1 : Hid (Below w3.heap.size w3 (y3.setRow H #[u1, u2])) := hide ((unhide Sy3).trans (below_setRow (Below.refl _ _) (unhide hHz) _))
          refine wpList_store_row rfl 27 (.tmp 14) (.tmp 35) rfl H #[u1, u2] rfl rfl 27 _ (unhide Ry3) (unhide PS _ _) rfl one ?_
          go_wp2
          refine ⟨unhide s1, ?_⟩
          refine wpAnyH_one 12 _ (by kernel_rfl) rfl ?_
          go_wp2
          refine ⟨unhide s1, wpAnyH_done (by kernel_rfl) ?_ _⟩
          go_wp2
          go_meet
          case rel => exact ⟨H, u1, u2, rfl, rfl, unhide s1, r1, p1, unhide hHz, one⟩
      · go_wp2
        have SA : Hid (Below w3.heap.size w3 (d0.alloc (.cells zPur 27))) := hide ((unhide Sd0).alloc (unhide Sd0).size _)
        have RA := hide (al1 d0 (.cells zPur 27))
        have hHz : Hid (w3.heap.size ≤ d0.heap.size) := hide (unhide Sd0).size
        have bA : Below d0.heap.size d0 (d0.alloc (.cells zPur 27)) := (Below.refl _ _).alloc (Nat.le_refl _) _
        refine ⟨unhide SA, ?_⟩
        change wpAnyH _ _ _ _ _ _ _ _ (d0.alloc (.cells zPur 27))
        obtain ⟨y1, hY⟩ : ∃ Y, d0.alloc (.cells zPur 27) = Y := ⟨_, rfl⟩
        rw [hY] at SA RA bA
        rw [hY]
        have Sy1 := SA
        have Ry1 := RA
        obtain ⟨H, hH⟩ : ∃ H, d0.heap.size = H := ⟨_, rfl⟩
        rw [hH] at Ry1 hHz
        rw [hH]
        clear hY SA RA bA hH
        refine wpAnyH_one 2 _ (by kernel_rfl) rfl ?_
        go_wp2_with fail
        refine (unhide CK _).mono ?_
        rintro e y2 ⟨rfl, bz⟩
        have Sy2 : Hid (Below w3.heap.size w3 y2) := hide ((unhide Sy1).trans (bz.mono (unhide Sy1).size))
        have Ry2 := hide (Below.at bz (Array.getElem?_eq_some_iff.1 (unhide Ry1)).1 (unhide Ry1))
        clear bz
        go_wp2
        refine ⟨unhide Sy2, ?_⟩
        refine wpAnyH_take (i := 4) (v := .agg #[.int .u32 (o : Int), .string (str n), .string (str a)]) rfl (by kernel_rfl) (by kernel_rfl) (by kernel_rfl) (fun _ _ _ h => h) (yields_build (by kernel_rfl) 81 #[(0, .tmp 30), (1, .tmp 31)] rfl #[.int .u32 (o : Int), .string (str n), .string (str a)] (by kernel_rfl)) (unhide Sy2) ?_
        refine wpAnyH_one 6 _ (by kernel_rfl) rfl ?_
        go_wp2_with fail
        refine (unhide CL _ (unhide Sy2)).mono ?_
        rintro e y3 ⟨⟨v', rfl, po⟩, bz⟩
        obtain ⟨u1, u2, rfl, one⟩ := po.parts
        have Sy3 : Hid (Below w3.heap.size w3 y3) := hide ((unhide Sy2).trans (bz.mono (unhide Sy2).size))
        have Py3 := hide (po.base (unhide Sy2).size)
        have Ry3 := hide (Below.at bz (Array.getElem?_eq_some_iff.1 (unhide Ry2)).1 (unhide Ry2))
        clear bz po
        go_wp2
        refine ⟨unhide Sy3, ?_⟩
        refine wpAnyH_take (i := 7) (v := .tuple #[.agg #[u1, u2], .int .i64 (LE : Int)]) rfl (by kernel_rfl) (by kernel_rfl) (by kernel_rfl) (fun _ _ _ h => h) (.inl ⟨by kernel_rfl, fun W _ => by kernel_rfl⟩) (unhide Sy3) ?_
        refine wpAnyH_take (i := 8) (v := .agg #[u1, u2]) rfl (by kernel_rfl) (by kernel_rfl) (by kernel_rfl) (fun _ _ _ h => h) (.inl ⟨by kernel_rfl, fun W _ => by kernel_rfl⟩) (unhide Sy3) ?_
        refine wpAnyH_take (i := 9) (v := .int .i64 (LE : Int)) rfl (by kernel_rfl) (by kernel_rfl) (by kernel_rfl) (fun _ _ _ h => h) (.inl ⟨by kernel_rfl, fun W _ => by kernel_rfl⟩) (unhide Sy3) ?_
        refine wpAnyH_one 11 _ (by kernel_rfl) rfl ?_
        have r1 := setRow_heap _ _ _ #[u1, u2] _ _ (unhide Ry3)
        have p1 := (unhide Py3).other (w' := y3.setRow H #[u1, u2]) (fun k hk => setRow_other _ _ _ _ hk) _ _ (by decide) (by decide) (unhide Ry3)
        have s1 : Hid (Below w3.heap.size w3 (y3.setRow H #[u1, u2])) := hide ((unhide Sy3).trans (below_setRow (Below.refl _ _) (unhide hHz) _))
        refine wpList_store_row rfl 27 (.tmp 14) (.tmp 35) rfl H #[u1, u2] rfl rfl 27 _ (unhide Ry3) (unhide PS _ _) rfl one ?_
        go_wp2
        refine ⟨unhide s1, ?_⟩
        refine wpAnyH_one 12 _ (by kernel_rfl) rfl ?_
        go_wp2
        refine ⟨unhide s1, wpAnyH_done (by kernel_rfl) ?_ _⟩
        go_wp2
        go_meet
        case rel => exact ⟨H, u1, u2, rfl, rfl, unhide s1, r1, p1, unhide hHz, one⟩
    case rest =>
    obtain ⟨H, u1, u2, rfl, rfl, sC, rC, pC, hHC, one⟩ := hcut
    have S4 : Hid (Below X.heap.size X wc) := hide ((unhide S3).trans (sC.mono (unhide S3).size))
    have k0 := unhide LP _ sC
    have q4 := unhide LT _ sC
    have PC := hide pC
    have HHC := hide hHC
    have HGX : Hid (X.heap.size ≤ G) := HGB
    have hHG : H ≠ G := fun e => by
      rw [e, q4] at rC
      simp only [Option.some.injEq, Obj.cells.injEq] at rC
      exact absurd rC.2.1 (by decide)
    have HHG := hide hHG
    have z3 : Hid (w.heap.size ≤ w3.heap.size) := hide (by have := (unhide S3).size; have := unhide SX; omega)
    clear LP LT CL CK sC pC hHC hHG S3
    by_cases he : LE = 0
    · have HR := unhide HL
      rw [if_pos he] at HR
      subst he
      have c4 : wc.cell? ⟨G, 6, none⟩ = some (.int .u64 (t.bu : Int)) := cell_of_row _ _ _ _ _ _ q4
      have f4 : wc.frozen? ⟨G, 6, none⟩ = false := frozen_in_row q4
      have HL2 := hide HR
      clear HR HL k0
      go_wp2_with fail
      refine (unhide CA _).mono ?_
      rintro e w5 ⟨rfl, rfl⟩
      by_cases hs4 : t.bu + k < 18446744073709551616
      · have e1 : pAdd t.bu k = (t.bu + k, 0) := by unfold pAdd; rw [if_neg (by omega)]
        have HR := unhide HL2
        rw [if_pos hs4] at HR
        rw [e1]
        obtain ⟨SM, hSM⟩ : ∃ x, t.bu + k = x := ⟨_, rfl⟩
        rw [hSM] at HR ⊢
        have r5 := heap_setCell_same w5 G 6 (tokC t).toArray _ (.int .u64 (SM : Int)) q4
        have e5 : (tokC t).toArray.setIfInBounds 6 (.int .u64 (SM : Int)) = (tokC { t with bu := SM }).toArray := rfl
        rw [e5] at r5
        have S5 : Hid (Below X.heap.size X (w5.setCell ⟨G, 6, none⟩ (.int .u64 (SM : Int)))) := hide ((unhide S4).setCell (p := ⟨G, 6, none⟩) (unhide HGX) _)
        have rH := (Below.heap_setCell w5 ⟨G, 6, none⟩ (.int .u64 (SM : Int)) H (unhide HHG)).trans rC
        have P5' : PO (w5.setCell ⟨G, 6, none⟩ (.int .u64 (SM : Int))) w3.heap.size (.agg #[u1, u2]) ts LH := by
          obtain ⟨y1, y2, hy, o1, o2⟩ := unhide PC
          refine ⟨y1, y2, hy, ?_, vowns_other o2 (fun k' hk' => Below.heap_setCell w5 ⟨G, 6, none⟩ _ k' hk') _ _ (by decide) q4⟩
          exact owns_low o1 (unhide HGW) (fun k' hk' => Below.heap_setCell w5 ⟨G, 6, none⟩ _ k' hk')
        have CW5 := hide (unhide CW SM _ _ P5'.mem)
        have tinf := tokSz { t with bu := SM }
        generalize pSetT ts { t with bu := SM } = RR at *
        subst HR
        generalize ({ t with bu := SM } : Tkn) = T2 at *
        clear HL2 hs4 e1 CA CT e5 CW q4 rC P5' hSM
        go_upto_region 10 with fail
        obtain ⟨w6, hw6⟩ : ∃ W, w5.setCell ⟨G, 6, none⟩ (.int .u64 (SM : Int)) = W := ⟨_, rfl⟩
        rw [hw6] at r5 S5 rH CW5
        rw [hw6]
        clear hw6 c4 f4 S4
        go_wp2_with (first
          | (refine wpList_load_row rfl 27 (.tmp 14) rfl H rfl 27 _ (0, 0) _ rH Tryd.underlying27 rfl (unhide PS _ _) ?_)
          | (refine wpList_load_row rfl 38 (.tmp 12) rfl G rfl 38 _ (0, 0) _ r5 Tryd.underlying38 rfl tinf ?_))
        refine (unhide CW5).mono ?_
        rintro e wz ⟨⟨v', rfl, po⟩, bz⟩
        obtain ⟨y1, y2, rfl, one3⟩ := po.parts
        have SZ := (unhide S5).trans (bz.mono (unhide S5).size)
        have rz := Below.at SZ (by have := unhide SX; omega) (unhide QR)
        have F := hide (out_set (C := w.heap.size) po (by have := (unhide S5).size; have := (unhide B0).size; omega) (by omega) rz ((unhide B0).trans (SZ.mono (unhide B0).size)) #[y1, y2])
        clear po bz SZ rH r5 CW5
        go_wp2_with (refine wpList_store_row rfl 27 (.tmp 10) (.tmp 56) rfl (w.heap.size + 1) _ rfl rfl 27 _ rz (unhide PS _ _) rfl one3 ?_)
        exact bodyPost_ret (results_row_tmp rfl _ _ (w.heap.size + 1) _ _ _ _ rfl (setRow_heap _ _ _ _ _ _ rz) Tryd.underlying27 rfl (unhide PS _ _)) rfl ⟨⟨_, rfl, (unhide F).1⟩, (unhide F).2⟩
      · have e1 : pAdd t.bu k = (0, 10) := by unfold pAdd; rw [if_pos (by omega)]
        have HR := unhide HL2
        rw [if_neg hs4] at HR
        subst HR
        rw [e1]
        have S5 : Hid (Below X.heap.size X (w5.setCell ⟨G, 6, none⟩ (.int .u64 ((0 : Nat) : Int)))) := hide ((unhide S4).setCell (p := ⟨G, 6, none⟩) (unhide HGX) _)
        clear HL2 hs4 e1 CA CW q4 rC
        go_upto_region 8 with fail
        obtain ⟨w6, hw6⟩ : ∃ W, w5.setCell ⟨G, 6, none⟩ (.int .u64 ((0 : Nat) : Int)) = W := ⟨_, rfl⟩
        change Code.wp _ _ _ _ (w5.setCell ⟨G, 6, none⟩ (.int .u64 ((0 : Nat) : Int)))
        rw [hw6] at S5
        rw [hw6]
        clear hw6 c4 f4 S4
        have k0 := Below.at (unhide S5) (by have := unhide SX; omega) (unhide Q0)
        go_wp2_with (refine wpList_load_row rfl 27 (.tmp 5) rfl w.heap.size rfl 27 _ (0, 0) _ k0 Tryd.underlying27 rfl (unhide PS _ _) ?_)
        refine (unhide CT _ (unhide S5)).mono ?_
        rintro e wz ⟨⟨v', rfl, po⟩, bz⟩
        obtain ⟨y1, y2, rfl, one3⟩ := po.parts
        have SZ := (unhide S5).trans (bz.mono (unhide S5).size)
        have rz := Below.at SZ (by have := unhide SX; omega) (unhide QR)
        have F := hide (out_set (C := w.heap.size) po (by have := (unhide S5).size; have := (unhide B0).size; omega) (by omega) rz ((unhide B0).trans (SZ.mono (unhide B0).size)) #[y1, y2])
        clear po bz SZ k0
        go_wp2_with (refine wpList_store_row rfl 27 (.tmp 10) (.tmp 52) rfl (w.heap.size + 1) _ rfl rfl 27 _ rz (unhide PS _ _) rfl one3 ?_)
        exact bodyPost_ret (results_row_tmp rfl _ _ (w.heap.size + 1) _ _ _ _ rfl (setRow_heap _ _ _ _ _ _ rz) Tryd.underlying27 rfl (unhide PS _ _)) rfl ⟨⟨_, rfl, (unhide F).1⟩, (unhide F).2⟩
    · have HR := unhide HL
      rw [if_neg he] at HR
      subst HR
      have d0 : ¬ ((LE : Nat) : Int) = 0 := by omega
      have rz := Below.at (unhide S4) (by have := unhide SX; omega) (unhide QR)
      have F := hide (out_set (C := w.heap.size) (unhide PC) (unhide z3) (by omega) rz ((unhide B0).trans ((unhide S4).mono (unhide B0).size)) #[u1, u2])
      clear HL he CA CW CT k0 q4
      go_wp2_with (first
        | (refine wpList_load_row rfl 27 (.tmp 14) rfl H rfl 27 _ (0, 0) _ rC Tryd.underlying27 rfl (unhide PS _ _) ?_)
        | (refine wpList_store_row rfl 27 (.tmp 10) (.tmp 39) rfl (w.heap.size + 1) _ rfl rfl 27 _ rz (unhide PS _ _) rfl one ?_))
      exact bodyPost_ret (results_row_tmp rfl _ _ (w.heap.size + 1) _ _ _ _ rfl (setRow_heap _ _ _ _ _ _ rz) Tryd.underlying27 rfl (unhide PS _ _)) rfl ⟨⟨_, rfl, (unhide F).1⟩, (unhide F).2⟩
end Go.Proofs.YtjfnaedcdmmigaaDoor

namespace Go.Proofs.YtjfnaedcdmmigaaDoor
open Go Go.RowKit
set_option linter.unusedSimpArgs false
set_option linter.unusedVariables false

theorem insInfoT : ∃ i z, Tryd.prog.info? 38 = some i ∧ i.zero = some z ∧ i.size = 7 ∧ i.bytes = 64 ∧ z.cells.size = 7 := rowInfoV infoT
set_option maxHeartbeats 4000000 in
set_option maxRecDepth 1000000 in
theorem insEndT (n : Nat) (hn : n ≤ 1000) (L X : List Value) (hX : X.length = 7) (h1X : ∀ u ∈ X, u.oneCell' = true) (v : Value) (B h : Nat) (w : World) (hB : B ≤ w.heap.size) (hown : w.ownsRow B 38 7 v n L) (hh : w.heap[h]? = some (.cells X.toArray 38 (0, 0))) :
    Calls Tryd.prog 54 #[v, .int .i64 (n : Int), .slice (some ⟨h, 0, none⟩) 1 1] w fun e w' => (∃ v', e = .returned v' ∧ w'.ownsRow B 38 7 v' (n + 1) (L ++ X)) ∧ (∀ k, k < w.heap.size → some k ≠ v.ownBlock → w'.heap[k]? = w.heap[k]?) ∧ w.heap.size ≤ w'.heap.size ∧ Below B w w' := by
  have hVL : VL w (some ⟨h, 0, none⟩) X := fun _ => ⟨h, 0, rfl, (Array.getElem?_eq_some_iff.1 hh).1, fun i hi => by rw [Nat.zero_add, cell_of_row _ _ _ _ _ _ hh]; simp⟩
  have HV := hide hVL
  have HX1 := hide (show X.length = 1 * 7 by rw [hX])
  have HO := hide h1X
  have hcv : ∃ p c, v = .slice p n c ∧ n ≤ c ∧ c ≤ maxLen ∧ (p = none → n = 0 ∧ c = 0) := by
    rcases hown.2 with ⟨rfl, rfl⟩ | ⟨g, cap, cur, rfl, _, _, h2, h3, _⟩
    · exact ⟨none, 0, rfl, Nat.le_refl _, Nat.zero_le _, fun _ => ⟨rfl, rfl⟩⟩
    · exact ⟨_, cap, rfl, h2, h3, fun h => by cases h⟩
  obtain ⟨p, c, rfl, hnc, hcm, hp⟩ := hcv
  have HW := hide hown
  clear hown hVL hh hX h1X
  go_enter Tryd.func54, Tryd.ntmps54
  cases p with
  | none =>
    obtain ⟨rfl, rfl⟩ := hp rfl
    go_wp2_with (at_builtin; refine wpList_append_e w rfl 24 38 (.tmp 23) (.tmp 24) rfl Tryd.underlying24 (by decide) infoT (by decide) B _ 0 L rfl (unhide HW) hB X 1 (unhide HX1) (unhide HO) ⟨h, 0, none⟩ 1 (unhide HV) rfl (by omega) ?_; intro v' w1 ho hg hb)
    go_ret
    exact ⟨⟨_, rfl, ho⟩, fun k hk hk2 => hg.block k hk (fun e => hk2 e), hg.size, hb⟩
  | some a =>
    obtain ⟨ab, ao, asp⟩ := a
    have hp := ()
    go_wp2_with (at_builtin; refine wpList_append_e w rfl 24 38 (.tmp 23) (.tmp 24) rfl Tryd.underlying24 (by decide) infoT (by decide) B _ n L rfl (unhide HW) hB X 1 (unhide HX1) (unhide HO) ⟨h, 0, none⟩ 1 (unhide HV) rfl (by omega) ?_; intro v' w1 ho hg hb)
    all_goals (go_ret; exact ⟨⟨_, rfl, ho⟩, fun k hk hk2 => hg.block k hk (fun e => hk2 e), hg.size, hb⟩)
set_option maxHeartbeats 4000000 in
set_option maxRecDepth 1000000 in
theorem insRoomT (n : Nat) (hn : n ≤ 1000) (i : Nat) (hi : i < n) (L X : List Value) (hX : X.length = 7) (h1X : ∀ u ∈ X, u.oneCell' = true) (h1L : ∀ u ∈ L, u.oneCell' = true) (g cap : Nat) (cur : Array Value) (B h : Nat) (w : World) (hBg : B ≤ g) (hg : w.heap[g]? = some (.cells cur 38 (0, 0))) (hroom : n + 1 ≤ cap) (hcm : cap ≤ maxLen) (hcs : cur.size = cap * 7) (htk : cur.toList.take (n * 7) = L) (hlL : L.length = n * 7) (hgh : h ≠ g) (hh : w.heap[h]? = some (.cells X.toArray 38 (0, 0))) :
    Calls Tryd.prog 54 #[.slice (some ⟨g, 0, none⟩) n cap, .int .i64 (i : Int), .slice (some ⟨h, 0, none⟩) 1 1] w fun e w' => (∃ v', e = .returned v' ∧ w'.ownsRow B 38 7 v' (n + 1) (L.take (i * 7) ++ X ++ L.drop (i * 7))) ∧ (∀ k, k < w.heap.size → some k ≠ (Value.slice (some ⟨g, 0, none⟩) n cap).ownBlock → w'.heap[k]? = w.heap[k]?) ∧ w.heap.size ≤ w'.heap.size ∧ Below B w w' := by
  have hz2 : ¬ ((i : Int) = (n : Int)) := by omega
  have hcap63 : cap ≤ 9223372036854775807 := by unfold maxLen at hcm; omega
  obtain ⟨i0, z0, hi0, hzz, hz1, hz3, hzc⟩ := insInfoT
  have hsz : (Tryd.prog.info? 38).map (·.size) = some 7 := by rw [hi0, Option.map_some, hz1]
  have hov : ∀ lb cb, (callFunc 78 #[.slice (some ⟨h, 0, none⟩) 1 1, .slice (some ⟨g, (i + 1) * 7, none⟩) lb cb]).run Tryd.prog w = .ok (.value (.bool false)) w := fun lb cb => by
    rw [run_callFunc_extern Tryd.func78 (by kernel_rfl) (by kernel_rfl) (by kernel_rfl) (e := Extern.SlicesOverlaps.overlaps #[24, 24] #[4]) (by kernel_rfl),
      Lib.run_overlaps_apart w 24 4 38 Tryd.underlying24 7 Tryd.sizeOf38 ⟨h, 0, none⟩ ⟨g, (i + 1) * 7, none⟩ 1 1 lb cb hgh _ _ _ _ (shape_row hh) (shape_row hg) (by omega) (frozen_in_row hh) (frozen_in_row hh)]
    rfl
  have hdl : (L.drop (i * 7)).length = (n - i) * 7 := by rw [List.length_drop, hlL]; omega
  have hal : (L.take (i * 7)).length = i * 7 := by rw [List.length_take, hlL]; omega
  have hgd : w.drew.heap[g]? = some (.cells cur 38 (0, 0)) := hg
  have hcL : ∀ j u, (L.drop (i * 7))[j]? = some u → w.drew.cell? ((⟨g, i * 7, none⟩ : Addr).add j) = some u := fun j u hu => by
    rw [Addr.add_lit, cell_of_row _ _ _ _ _ _ hgd]
    have hj := (List.getElem?_eq_some_iff.1 hu).1
    rw [hdl] at hj
    have h1 : (cur.toList.take (n * 7))[i * 7 + j]? = L[i * 7 + j]? := by rw [htk]
    rw [List.getElem?_take, if_pos (by omega)] at h1
    rw [List.getElem?_drop, ← h1] at hu
    simpa using hu
  have hcp1 : ∀ ty, (Builtin.copy_ #[24, 24] ty #[.slice (some ⟨g, (i + 1) * 7, none⟩) (n + 1 - (i + 1)) (cap - (i + 1)), .slice (some ⟨g, i * 7, none⟩) (n + 1 - i) (cap - i)]).run Tryd.prog w.drew = .ok (goInt ((n - i : Nat) : Int)) (w.drew.setRow g (rowPut cur ((i + 1) * 7) (L.drop (i * 7)))) := fun ty =>
    run_copy_k w.drew _ _ ty 38 7 g ((i + 1) * 7) _ _ ⟨g, i * 7, none⟩ _ _ cur _ (L.drop (i * 7)) (n - i) Tryd.underlying24 hsz hgd (by simp only [Nat.min_def]; split <;> omega) hdl hcL (by rw [hdl, hcs]; omega) (fun u hu => h1L u (List.mem_of_mem_drop hu))
  obtain ⟨C1, hC1⟩ : ∃ C, rowPut cur ((i + 1) * 7) (L.drop (i * 7)) = C := ⟨_, rfl⟩
  have hs1 : C1.size = cap * 7 := by rw [← hC1, rowPut_size _ _ _ (by rw [hdl, hcs]; omega), hcs]
  rw [hC1] at hcp1
  obtain ⟨W1, hW1⟩ : ∃ W1, w.drew.setRow g C1 = W1 := ⟨_, rfl⟩
  have r1 : W1.heap[g]? = some (.cells C1 38 (0, 0)) := by rw [← hW1]; exact setRow_heap _ _ _ _ _ _ hgd
  have o1 : ∀ k, k ≠ g → W1.heap[k]? = w.heap[k]? := fun k hk => by rw [← hW1]; exact setRow_other _ _ _ _ hk
  have z1 : W1.heap.size = w.heap.size := by rw [← hW1]; exact setRow_size _ _ _
  have u1 : Below B w W1 := by rw [← hW1]; exact (show Below B w w.drew from ⟨rfl, rfl, rfl, Nat.le_refl _, fun _ _ => rfl⟩).trans (below_setRow (Below.refl _ _) hBg _)
  rw [hW1] at hcp1
  have hcp2 : ∀ ty, (Builtin.copy_ #[24, 24] ty #[.slice (some ⟨g, i * 7, none⟩) (n + 1 - i) (cap - i), .slice (some ⟨h, 0, none⟩) 1 1]).run Tryd.prog W1 = .ok (goInt ((1 : Nat) : Int)) (W1.setRow g (rowPut C1 (i * 7) X)) := fun ty =>
    run_copy_k W1 _ _ ty 38 7 g (i * 7) _ _ ⟨h, 0, none⟩ _ _ C1 _ X 1 Tryd.underlying24 hsz r1 (by simp only [Nat.min_def]; split <;> omega) (by rw [hX]) (fun j u hu => by
      rw [Addr.add_lit, Nat.zero_add, cell_of_row _ _ _ _ _ _ ((o1 h hgh).trans hh)]; simpa using hu) (by rw [hX, hs1]; omega) h1X
  have hrow := ins_right cur (L.take (i * 7)) X (L.drop (i * 7)) (by rw [hal, ← htk, List.take_take, Nat.min_eq_left (by omega)]) (by rw [hal, hX, hdl, hcs]; omega)
  rw [hal, hX, show i * 7 + 7 = (i + 1) * 7 by omega, hC1, hdl, show (i + 1) * 7 + (n - i) * 7 = (n + 1) * 7 by omega] at hrow
  have hs2 : (rowPut C1 (i * 7) X).size = cap * 7 := by rw [rowPut_size _ _ _ (by rw [hX, hs1]; omega), hs1]
  obtain ⟨C2, hC2⟩ : ∃ C, rowPut C1 (i * 7) X = C := ⟨_, rfl⟩
  rw [hC2] at hcp2 hrow hs2
  have FIN : Hid ((∃ v', (Ending.returned (.slice (some ⟨g, 0, none⟩) (n + 1) cap) : Ending) = .returned v' ∧ (W1.setRow g C2).ownsRow B 38 7 v' (n + 1) (L.take (i * 7) ++ X ++ L.drop (i * 7))) ∧ (∀ k, k < w.heap.size → some k ≠ (Value.slice (some ⟨g, 0, none⟩) n cap).ownBlock → (W1.setRow g C2).heap[k]? = w.heap[k]?) ∧ w.heap.size ≤ (W1.setRow g C2).heap.size ∧ Below B w (W1.setRow g C2)) := hide (by
    refine ⟨⟨_, rfl, by rw [List.length_append, List.length_append, hal, hX, hdl]; omega, .inr ⟨g, cap, C2, rfl, hBg, setRow_heap _ _ _ _ _ _ r1, hroom, hcm, hs2, hrow⟩⟩, fun k hk hk2 => ?_, ?_, u1.trans (below_setRow (Below.refl _ _) hBg _)⟩
    · have hne : k ≠ g := fun e => hk2 (by rw [e]; rfl)
      exact (setRow_other _ _ _ _ hne).trans (o1 k hne)
    · rw [setRow_size, z1]; exact Nat.le_refl _)
  obtain ⟨W2, hW2⟩ : ∃ W2, W1.setRow g C2 = W2 := ⟨_, rfl⟩
  rw [hW2] at FIN hcp2
  have hw1 : IntKind.i64.wrap ((i : Int) + 1) = (i : Int) + 1 := by rw [IntKind.wrap_i64]; omega
  have hw2 : IntKind.i64.wrap ((n : Int) + 1) = (n : Int) + 1 := by rw [IntKind.wrap_i64]; omega
  have hb1 : (0 : Int) ≤ (i : Int) + 1 := by omega
  have hb1' : (0 : Int) ≤ (n : Int) + 1 := by omega
  have hin : i ≤ n := by omega
  have hin' : i + 1 ≤ n + 1 := by omega
  have htn : ((i : Int) + 1).toNat = i + 1 := by omega
  have htn' : ((n : Int) + 1).toNat = n + 1 := by omega
  have hb2 : ¬ (cap = i + 1) := by omega
  have hb3 : (i : Int) + 1 ≤ (n : Int) + 1 := by omega
  have hb3' : (i : Int) ≤ (n : Int) + 1 := by omega
  have hb4 : ¬ (cap = i) := by omega
  have hb5 : ¬ ((cap : Int) < (n : Int) + 1) := by omega
  have hb6 : (n : Int) + 1 ≤ (cap : Int) := by omega
  have mixed := mixed
  clear hW1 hW2 r1 o1 z1 u1 hs1 hs2 hrow hC1 hC2 hcL hdl hal hgd hg hh hcs htk hlL h1L h1X hX hzc hz3 hzz hi0 hcm hBg hgh
  go_enter Tryd.func54, Tryd.ntmps54
  go_wp2_with (simp only [hov])
  go_region_law_o (refine step_copy_runI rfl _ _ 24 24 rfl _ _ (by simp [Act.eval, Act.put]) (by simp [Act.eval, Act.put]) (hcp1 _) ?_)
  go_wp2_with (at_builtin; refine wpList_copy_runI _ rfl _ _ 24 24 rfl _ _ rfl rfl (hcp2 _) ?_)
  go_ret
  exact unhide FIN
set_option maxHeartbeats 4000000 in
set_option maxRecDepth 1000000 in
theorem insGrowT (n : Nat) (hn : n ≤ 1000) (i : Nat) (hi : i < n) (L X : List Value) (hX : X.length = 7) (h1X : ∀ u ∈ X, u.oneCell' = true) (h1L : ∀ u ∈ L, u.oneCell' = true) (g cap : Nat) (cur : Array Value) (B h : Nat) (w : World) (hB : B ≤ w.heap.size) (hg : w.heap[g]? = some (.cells cur 38 (0, 0))) (hnc : n ≤ cap) (hroom : cap < n + 1) (hcs : cur.size = cap * 7) (htk : cur.toList.take (n * 7) = L) (hlL : L.length = n * 7) (hh : w.heap[h]? = some (.cells X.toArray 38 (0, 0))) :
    Calls Tryd.prog 54 #[.slice (some ⟨g, 0, none⟩) n cap, .int .i64 (i : Int), .slice (some ⟨h, 0, none⟩) 1 1] w fun e w' => (∃ v', e = .returned v' ∧ w'.ownsRow B 38 7 v' (n + 1) (L.take (i * 7) ++ X ++ L.drop (i * 7))) ∧ (∀ k, k < w.heap.size → some k ≠ (Value.slice (some ⟨g, 0, none⟩) n cap).ownBlock → w'.heap[k]? = w.heap[k]?) ∧ w.heap.size ≤ w'.heap.size ∧ Below B w w' := by
  have hz2 : ¬ ((i : Int) = (n : Int)) := by omega
  have hz3' : (cap : Int) < (n : Int) + 1 := by omega
  obtain ⟨i0, z0, hi0, hzz, hz1, hz3, hzc⟩ := insInfoT
  have hsz : (Tryd.prog.info? 38).map (·.size) = some 7 := by rw [hi0, Option.map_some, hz1]
  have hgw := (Array.getElem?_eq_some_iff.1 hg).1
  have hhw := (Array.getElem?_eq_some_iff.1 hh).1
  have hdl : (L.drop (i * 7)).length = (n - i) * 7 := by rw [List.length_drop, hlL]; omega
  have hal : (L.take (i * 7)).length = i * 7 := by rw [List.length_take, hlL]; omega
  have hgd : w.drew.heap[g]? = some (.cells cur 38 (0, 0)) := hg
  have hcell : ∀ (W : World), W.heap[g]? = some (.cells cur 38 (0, 0)) → ∀ j u, j < n * 7 → L[j]? = some u → W.cell? ⟨g, j, none⟩ = some u := fun W hW j u hj hu => by
    rw [cell_of_row _ _ _ _ _ _ hW]
    have h1 : (cur.toList.take (n * 7))[j]? = L[j]? := by rw [htk]
    rw [List.getElem?_take, if_pos hj] at h1
    rw [← h1] at hu
    simpa using hu
  have hold : (Builtin.firstCells i0.size i (.slice (some ⟨g, 0, none⟩) i cap)).run Tryd.prog w.drew = .ok (L.take (i * 7)).toArray w.drew := by
    rw [hz1]
    exact run_firstCells_some w.drew 7 i ⟨g, 0, none⟩ i cap (L.take (i * 7)) (by rw [hal]) (fun j u hj => by
      rw [Addr.add_lit, Nat.zero_add]
      have hjl := (List.getElem?_eq_some_iff.1 hj).1
      rw [hal] at hjl
      rw [List.getElem?_take, if_pos hjl] at hj
      exact hcell _ hgd j u (by omega) hj)
  have hkk : (n : Int) + 1 - (i : Int) = ((n + 1 - i : Nat) : Int) := by omega
  have hik : i + (n + 1 - i) = n + 1 := by omega
  obtain ⟨G, hG⟩ : ∃ G, grownCap w (n + 1) cap 38 = G := ⟨_, rfl⟩
  have hGn : n + 1 ≤ G := by rw [← hG]; exact grownCap_ge w _ _ _
  have hGm : G ≤ maxLen := by rw [← hG]; exact grownCap_le_maxLen w (n + 1) cap 38 (by unfold maxLen; omega)
  obtain ⟨ROW, hROW⟩ : ∃ R : Array Value, (L.take (i * 7)).toArray ++ Builtin.zeroCells z0.cells (n + 1 - i) ++ Builtin.zeroCells z0.cells (G - (n + 1)) = R := ⟨_, rfl⟩
  have hrz : ∀ ty, (Builtin.append_ #[24, 3] ty #[.slice (some ⟨g, 0, none⟩) i cap, .int .i64 ((n : Int) + 1 - (i : Int))]).run Tryd.prog w = .ok (.slice (some ⟨w.heap.size, 0, none⟩) (n + 1) G) (w.drew.alloc (.cells ROW 38)) := fun ty => by
    have h := Lib.run_append_grow_zeros w 24 3 ty 38 i0 z0 .i64 .i64 Tryd.underlying24 Tryd.underlying3 hi0 hzz (some ⟨g, 0, none⟩) i cap (L.take (i * 7)) hold (n + 1 - i) (by omega) (by omega) (by omega) (by omega) (by rw [hz3]; omega) (by rw [hz3, hik]; exact growslice_fits hroom (by omega))
    rw [hik, hG, hROW] at h
    rw [hkk]
    exact h
  have hRs : ROW.size = G * 7 := by
    rw [← hROW, Array.size_append, Array.size_append, zeroCells_size, zeroCells_size, hzc, List.size_toArray, hal]; omega
  have hRt : ROW.toList.take (i * 7) = L.take (i * 7) := by
    rw [← hROW, Array.toList_append, Array.toList_append, List.append_assoc]
    show ((L.take (i * 7)) ++ _).take (i * 7) = _
    rw [List.take_append_of_le_length (by rw [hal]; exact Nat.le_refl _), List.take_of_length_le (by rw [hal]; exact Nat.le_refl _)]
  obtain ⟨N, hN⟩ : ∃ N, w.heap.size = N := ⟨_, rfl⟩
  obtain ⟨W1, hW1⟩ : ∃ W1, w.drew.alloc (.cells ROW 38) = W1 := ⟨_, rfl⟩
  have r1 : W1.heap[N]? = some (.cells ROW 38 (0, 0)) := by rw [← hW1, ← hN]; exact al1 w.drew _
  have o1 : ∀ k, k < N → W1.heap[k]? = w.heap[k]? := fun k hk => by rw [← hW1]; exact Below.heap_alloc w.drew _ _ (by rw [← hN] at hk; exact hk)
  have z1 : N ≤ W1.heap.size := by rw [← hW1, ← hN, World.size_alloc]; exact Nat.le_succ _
  have u1 : Below B w W1 := by rw [← hW1]; exact (show Below B w w.drew from ⟨rfl, rfl, rfl, Nat.le_refl _, fun _ _ => rfl⟩).alloc hB _
  rw [hW1, hN] at hrz
  rw [hN] at hgw hhw
  have hcpA : ∀ ty, (Builtin.copy_ #[24, 24] ty #[.slice (some ⟨N, i * 7, none⟩) (n + 1 - i) (G - i), .slice (some ⟨h, 0, none⟩) 1 1]).run Tryd.prog W1 = .ok (goInt ((1 : Nat) : Int)) (W1.setRow N (rowPut ROW (i * 7) X)) := fun ty =>
    run_copy_k W1 _ _ ty 38 7 N (i * 7) _ _ ⟨h, 0, none⟩ _ _ ROW _ X 1 Tryd.underlying24 hsz r1 (by simp only [Nat.min_def]; split <;> omega) (by rw [hX]) (fun j u hu => by
      rw [Addr.add_lit, Nat.zero_add, cell_of_row _ _ _ _ _ _ ((o1 h hhw).trans hh)]; simpa using hu) (by rw [hX, hRs]; omega) h1X
  obtain ⟨R1, hR1⟩ : ∃ R, rowPut ROW (i * 7) X = R := ⟨_, rfl⟩
  have hs1 : R1.size = G * 7 := by rw [← hR1, rowPut_size _ _ _ (by rw [hX, hRs]; omega), hRs]
  rw [hR1] at hcpA
  obtain ⟨W2, hW2⟩ : ∃ W2, W1.setRow N R1 = W2 := ⟨_, rfl⟩
  have r2 : W2.drew.heap[N]? = some (.cells R1 38 (0, 0)) := by rw [← hW2]; exact setRow_heap W1 _ _ _ _ _ r1
  have o2 : ∀ k, k < N → W2.drew.heap[k]? = w.heap[k]? := fun k hk => by rw [← hW2]; exact (setRow_other W1 _ _ _ (by omega)).trans (o1 k hk)
  have z2 : N ≤ W2.drew.heap.size := by rw [← hW2]; show N ≤ (W1.setRow N R1).heap.size; rw [setRow_size]; exact z1
  have u2 : Below B w W2.drew := by
    rw [← hW2]
    exact (u1.trans (below_setRow (Below.refl _ _) (by omega) _)).trans ⟨rfl, rfl, rfl, Nat.le_refl _, fun _ _ => rfl⟩
  rw [hW2] at hcpA
  have hcpB : ∀ ty, (Builtin.copy_ #[24, 24] ty #[.slice (some ⟨N, (i + 1) * 7, none⟩) (n + 1 - (i + 1)) (G - (i + 1)), .slice (some ⟨g, i * 7, none⟩) (n - i) (cap - i)]).run Tryd.prog W2.drew = .ok (goInt ((n - i : Nat) : Int)) (W2.drew.setRow N (rowPut R1 ((i + 1) * 7) (L.drop (i * 7)))) := fun ty =>
    run_copy_k W2.drew _ _ ty 38 7 N ((i + 1) * 7) _ _ ⟨g, i * 7, none⟩ _ _ R1 _ (L.drop (i * 7)) (n - i) Tryd.underlying24 hsz r2 (by simp only [Nat.min_def]; split <;> omega) hdl (fun j u hu => by
      rw [Addr.add_lit]
      have hjl := (List.getElem?_eq_some_iff.1 hu).1
      rw [hdl] at hjl
      rw [List.getElem?_drop] at hu
      exact hcell _ ((o2 g hgw).trans hg) _ u (by omega) hu) (by rw [hdl, hs1]; omega) (fun u hu => h1L u (List.mem_of_mem_drop hu))
  have hrow := ins_left ROW (L.take (i * 7)) X (L.drop (i * 7)) (by rw [hal, hRt]) (by rw [hal, hX, hdl, hRs]; omega)
  rw [hal, hX, show i * 7 + 7 = (i + 1) * 7 by omega, hR1, hdl, show (i + 1) * 7 + (n - i) * 7 = (n + 1) * 7 by omega] at hrow
  have hs2 : (rowPut R1 ((i + 1) * 7) (L.drop (i * 7))).size = G * 7 := by rw [rowPut_size _ _ _ (by rw [hdl, hs1]; omega), hs1]
  obtain ⟨R2, hR2⟩ : ∃ C, rowPut R1 ((i + 1) * 7) (L.drop (i * 7)) = C := ⟨_, rfl⟩
  rw [hR2] at hcpB hrow hs2
  have FIN : Hid ((∃ v', (Ending.returned (.slice (some ⟨N, 0, none⟩) (n + 1) G) : Ending) = .returned v' ∧ (W2.drew.setRow N R2).ownsRow B 38 7 v' (n + 1) (L.take (i * 7) ++ X ++ L.drop (i * 7))) ∧ (∀ k, k < w.heap.size → some k ≠ (Value.slice (some ⟨g, 0, none⟩) n cap).ownBlock → (W2.drew.setRow N R2).heap[k]? = w.heap[k]?) ∧ w.heap.size ≤ (W2.drew.setRow N R2).heap.size ∧ Below B w (W2.drew.setRow N R2)) := hide (by
    rw [hN]
    refine ⟨⟨_, rfl, by rw [List.length_append, List.length_append, hal, hX, hdl]; omega, .inr ⟨N, G, R2, rfl, by omega, setRow_heap _ _ _ _ _ _ r2, hGn, hGm, hs2, hrow⟩⟩, fun k hk _ => (setRow_other _ _ _ _ (by omega)).trans (o2 k hk), ?_, u2.trans (below_setRow (Below.refl _ _) (by omega) _)⟩
    rw [setRow_size]; exact z2)
  obtain ⟨W3, hW3⟩ : ∃ W3, W2.drew.setRow N R2 = W3 := ⟨_, rfl⟩
  rw [hW3] at FIN hcpB
  have hw1 : IntKind.i64.wrap ((i : Int) + 1) = (i : Int) + 1 := by rw [IntKind.wrap_i64]; omega
  have hw2 : IntKind.i64.wrap ((n : Int) + 1) = (n : Int) + 1 := by rw [IntKind.wrap_i64]; omega
  have hb1 : (0 : Int) ≤ (i : Int) + 1 := by omega
  have hG63 : G ≤ 9223372036854775807 := by unfold maxLen at hGm; omega
  have hin : i ≤ n := by omega
  have hic : i ≤ cap := by omega
  have hin' : i + 1 ≤ n + 1 := by omega
  have htn : ((i : Int) + 1).toNat = i + 1 := by omega
  have hb3 : (i : Int) + 1 ≤ (n : Int) + 1 := by omega
  have hb3' : (i : Int) ≤ (n : Int) + 1 := by omega
  have hb3'' : (i : Int) ≤ (n : Int) := by omega
  have hb4 : ¬ (cap = i) := by omega
  have hGi : ¬ (G = i) := by omega
  have hGim : ¬ (G = i + 1) := by omega
  have mixed := mixed
  clear hW1 hW2 hW3 r1 o1 z1 u1 r2 o2 z2 u2 hs1 hs2 hrow hR1 hR2 hRs hRt hROW hcell hold hkk hik hdl hal hgd hg hh hcs htk hlL h1L h1X hX hzc hz3 hzz hi0 hgw hhw hG hN hGm
  go_enter Tryd.func54, Tryd.ntmps54
  go_wp2_with (first
    | (at_builtin; refine Lib.wpList_append_run _ rfl _ _ _ _ rfl _ _ rfl rfl _ _ (hrz _) ?_)
    | (at_builtin; refine wpList_copy_runI _ rfl _ _ 24 24 rfl _ _ rfl rfl (hcpA _) ?_))
  go_region_law_o (refine step_copy_runI rfl _ _ 24 24 rfl _ _ (by simp [Act.eval, Act.put]) (by simp [Act.eval, Act.put]) (hcpB _) ?_)
  go_wp2
  go_ret
  exact unhide FIN
set_option maxHeartbeats 1000000 in
/-- One element more at a place of a row of one's own. -/
theorem insT_calls (xs : List Tkn) (hn : xs.length ≤ 1000) (i : Nat) (hi : i ≤ xs.length) (x : Tkn) (v : Value) (B h : Nat) (w : World) (hB : B ≤ w.heap.size) (hown : w.ownsRow B 38 7 v xs.length (xs.flatMap tokC)) (hh : w.heap[h]? = some (.cells (tokC x).toArray 38 (0, 0))) (hne : some h ≠ v.ownBlock) :
    Calls Tryd.prog 54 #[v, .int .i64 (i : Int), .slice (some ⟨h, 0, none⟩) 1 1] w fun e w' => (∃ v', e = .returned v' ∧ w'.ownsRow B 38 7 v' (xs.insertIdx i x).length ((xs.insertIdx i x).flatMap tokC)) ∧ (∀ k, k < w.heap.size → some k ≠ v.ownBlock → w'.heap[k]? = w.heap[k]?) ∧ w.heap.size ≤ w'.heap.size ∧ Below B w w' := by
  rw [List.length_insertIdx, if_pos hi, flat_insert tokC_len x xs i hi]
  have hl := flatE_len tokC_len xs
  have h1 := flat_one tokC_one xs
  by_cases he : i = xs.length
  · rw [he, List.take_of_length_le (by rw [hl]; exact Nat.le_refl _), List.drop_of_length_le (by rw [hl]; exact Nat.le_refl _), List.append_nil]
    exact insEndT xs.length hn _ _ (tokC_len x) (tokC_one x) v B h w hB hown hh
  · rcases hown.2 with ⟨rfl, h0⟩ | ⟨g, cap, cur, rfl, hBg, hg, hnc, hcm, hcs, htk⟩
    · omega
    · by_cases hroom : xs.length + 1 ≤ cap
      · exact insRoomT xs.length hn i (by omega) _ _ (tokC_len x) (tokC_one x) h1 g cap cur B h w hBg hg hroom hcm hcs htk hl (fun e => hne (by rw [e]; rfl)) hh
      · exact insGrowT xs.length hn i (by omega) _ _ (tokC_len x) (tokC_one x) h1 g cap cur B h w hB hg hnc (by omega) hcs htk hl hh
end Go.Proofs.YtjfnaedcdmmigaaDoor

namespace Go.Proofs.YtjfnaedcdmmigaaDoor
open Go Go.RowKit
set_option linter.unusedSimpArgs false
set_option linter.unusedVariables false

/-- Ahead of the first one that stands behind it. -/
def pEnlist (ts : List Tkn) (o : Nat) (n : List UInt8) (m : Nat) : List Tkn × Nat :=
  if pRight n then (if ts.findIdx (isT o n) < ts.length then (ts, 13) else if 32 ≤ ts.length then (ts, 6) else (ts.insertIdx (ts.findIdx (fun t => decide (0 < pOrd t.o t.n o n))) ⟨o, n, m, 0, 0, 0, 0⟩, 0)) else (ts, 7)
set_option maxHeartbeats 4000000 in
set_option maxRecDepth 1000000 in
theorem enlist_calls (ts : List Tkn) (hs : List Hol) (hn1 : ts.length ≤ 1000) (hn2 : hs.length ≤ 1000) (htk : ∀ t ∈ ts, t.ok) (v : Value) (o : Nat) (n : List UInt8) (hnl : n.length ≤ 1000) (m : Nat) (w : World) (hU : UTabs w) (hP : PM w v ts hs) :
    Calls Tryd.prog 23 #[v, .int .u32 (o : Int), .string (str n), .int .u64 (m : Int)] w fun e w' => (∃ v', e = .returned (.tuple #[v', .int .i64 ((pEnlist ts o n m).2 : Int)]) ∧ PO w' w.heap.size v' (pEnlist ts o n m).1 hs) ∧ Below w.heap.size w w' := by
  obtain ⟨p1, c1, p2, c2, rfl, hT, hH⟩ := hP
  obtain ⟨q0, q1⟩ := al2 w (.cells #[.slice p1 ts.length c1, .slice p2 hs.length c2] 27) (.cells zPur 27)
  have b0 := bel2 w (.cells #[.slice p1 ts.length c1, .slice p2 hs.length c2] 27) (.cells zPur 27)
  have sX : ((w.alloc (.cells #[.slice p1 ts.length c1, .slice p2 hs.length c2] 27)).alloc (.cells zPur 27)).heap.size = w.heap.size + 1 + 1 := by simp
  obtain ⟨X, hX⟩ : ∃ X, (w.alloc (.cells #[.slice p1 ts.length c1, .slice p2 hs.length c2] 27)).alloc (.cells zPur 27) = X := ⟨_, rfl⟩
  have HX := hide hX
  rw [hX] at q0 q1 b0 sX
  have PX : PM X (.agg #[.slice p1 ts.length c1, .slice p2 hs.length c2]) ts hs := ⟨p1, c1, p2, c2, rfl, hT.below b0, hH.below b0⟩
  have CT := hide (twin_calls ts hs hn1 hn2 _ X PX)
  have CR := hide fun W => right_calls n (by omega) W
  have CP := hide fun W (hW : Below X.heap.size X W) => tokPlace_calls ts hs hn1 hn2 p1 p2 c1 c2 o n W ((hT.below b0).below hW) ((hH.below b0).below hW)
  have CI := hide fun K W (hW : Below X.heap.size X W) (q : W.heap[K]? = some (.cells (tkv o n) 79 (0, 0))) => indexT_calls 52 (enters_of Tryd.func52 (by kernel_rfl) rfl) #[.pointer (some ⟨K, 0, none⟩)] (fun t => decide (0 < pOrd t.o t.n o n)) ts hn1 p1 c1 W ((hT.below b0).below hW) (fun x hx V hV => tokBehind_calls x (htk x hx) o n hnl K V (((hU.below' b0).below' hW).below' hV) (Below.at hV (Array.getElem?_eq_some_iff.1 q).1 q))
  have HL : Hid (pEnlist ts o n m = if pRight n then (if ts.findIdx (isT o n) < ts.length then (ts, 13) else if 32 ≤ ts.length then (ts, 6) else (ts.insertIdx (ts.findIdx (fun t => decide (0 < pOrd t.o t.n o n))) ⟨o, n, m, 0, 0, 0, 0⟩, 0)) else (ts, 7)) := hide rfl
  obtain ⟨R, hR⟩ : ∃ R, pEnlist ts o n m = R := ⟨_, rfl⟩
  rw [hR] at HL
  rw [hR]
  have QR := hide q1
  have Q0 := hide q0
  have B0 := hide b0
  have SX := hide sX
  have HN1 := hide hn1
  have PS := hide fun v1 v2 => purSz v1 v2
  have KI := hide (tkInfo o n)
  have mf : ∀ (fn : Fn) (first cap : Array Value) (w : World), (Instr.makeFunc fn first cap).run Tryd.prog w = .ok (.func fn first cap) w := fun _ _ _ _ => rfl
  unfold zPur at HX
  generalize pRight n = RN at *
  clear hT hH hX PX q1 b0 sX hn1 hn2 htk hnl hU hR
  go_enter Tryd.func23, Tryd.ntmps23
  go_upto_region 1 with fail
  change Code.wp _ _ _ _ ((w.alloc (.cells #[.slice p1 ts.length c1, .slice p2 hs.length c2] 27)).alloc (.cells #[.slice none 0 0, .slice none 0 0] 27))
  rw [unhide HX]
  go_wp2_with (refine wpList_load_row rfl 27 (.tmp 4) rfl w.heap.size rfl 27 _ (0, 0) _ q0 Tryd.underlying27 rfl (unhide PS _ _) ?_)
  refine (unhide CT).mono ?_
  rintro e w2 ⟨⟨v', rfl, u1, u2, rfl, own1, own2⟩, b2⟩
  have one2 := two_one u1 u2 (owns_one own1) (owns_one own2)
  have O1 := hide own1
  have O2 := hide own2
  have B2 := hide b2
  clear own1 own2 b2 CT q0
  go_upto_region 2 with (refine wpList_store_newV rfl 27 (.tmp 10) (.tmp 14) rfl w2 #[.slice none 0 0, .slice none 0 0] _ #[u1, u2] rfl rfl (unhide PS _ _) rfl one2 ?_; intro w3 q7 b3 z3)
  have z2 := (unhide B2).size
  have S3 : Hid (Below X.heap.size X w3) := hide ((unhide B2).trans (b3.mono z2))
  have V3 : Hid (QV w3 X.heap.size w2.heap.size u1 u2 ts hs) := hide ⟨q7, vowns_below (unhide O1) b3, vowns_below (unhide O2) b3⟩
  obtain ⟨G, hG⟩ : ∃ G, w2.heap.size = G := ⟨_, rfl⟩
  have HGX : Hid (X.heap.size ≤ G) := hide (by rw [← hG]; exact z2)
  rw [hG] at V3
  simp only [hG]
  clear q7 b3 z3 z2 hG B2 O1 O2
  go_upto_region 3 with fail
  have qk := al1 w3 (.cells (tkv o n) 79)
  have bk : Below w3.heap.size w3 (w3.alloc (.cells (tkv o n) 79)) := (Below.refl _ _).alloc (Nat.le_refl _) _
  change Code.wp _ _ _ _ (w3.alloc (.cells (tkv o n) 79))
  have S4 : Hid (Below X.heap.size X (w3.alloc (.cells (tkv o n) 79))) := hide ((unhide S3).trans (bk.mono (unhide S3).size))
  have V4 := hide ((unhide V3).below bk)
  obtain ⟨w4, hw4⟩ : ∃ W, w3.alloc (.cells (tkv o n) 79) = W := ⟨_, rfl⟩
  rw [hw4] at qk S4 V4
  rw [hw4]
  obtain ⟨K, hKs⟩ : ∃ K, w3.heap.size = K := ⟨_, rfl⟩
  rw [hKs] at qk
  simp only [hKs]
  obtain ⟨KY, hKY⟩ : ∃ k, tkv o n = k := ⟨_, rfl⟩
  rw [hKY] at qk CP CI KI
  have QK := hide qk
  clear bk hw4 hKs S3 V3 hKY qk
  go_wp2_with fail
  refine (unhide CR _).mono ?_
  rintro e w5 ⟨rfl, b5⟩
  have S5 : Hid (Below X.heap.size X w5) := hide ((unhide S4).trans (b5.mono (unhide S4).size))
  have V5 := hide ((unhide V4).below b5)
  have q5 := Below.at b5 (Array.getElem?_eq_some_iff.1 (unhide QK)).1 (unhide QK)
  clear b5 S4 V4 CR QK
  -- an error: the twin as it is
  have ERR : Hid (∀ (W : World) (E : Nat), R = (ts, E) → Below X.heap.size X W → QV W X.heap.size G u1 u2 ts hs → W.heap[w.heap.size + 1]? = some (.cells zPur 27 (0, 0)) ∧ (PO (W.setRow (w.heap.size + 1) #[u1, u2]) w.heap.size (.agg #[u1, u2]) R.1 hs ∧ Below w.heap.size w (W.setRow (w.heap.size + 1) #[u1, u2])) ∧ R.2 = E) := hide fun W E hE hW hV => by
    have r := Below.at hW (by have := unhide SX; omega) (unhide QR)
    subst hE
    exact ⟨r, ⟨(hV.out _ _ r).base (by have := (unhide B0).size; omega), ((unhide B0).trans (hW.mono (unhide B0).size)).trans (below_setRow (Below.refl _ _) (by omega) _)⟩, rfl⟩
  cases RN with
  | false =>
    have HR := unhide HL
    rw [if_neg (by simp)] at HR
    have F := hide (unhide ERR w5 7 HR (unhide S5) (unhide V5))
    have rz := (unhide F).1
    have r5 := (unhide V5).row
    clear HR HL CP CI S5 V5 q5 ERR
    go_wp2_with (first
      | (refine wpList_load_row rfl 27 (.tmp 10) rfl G rfl 27 _ (0, 0) _ r5 Tryd.underlying27 rfl (unhide PS _ _) ?_)
      | (refine wpList_store_row rfl 27 (.tmp 8) (.tmp 22) rfl (w.heap.size + 1) _ rfl rfl 27 _ rz (unhide PS _ _) rfl one2 ?_))
    exact bodyPost_ret (results_row_tmp rfl _ _ (w.heap.size + 1) _ _ _ _ rfl (setRow_heap _ _ _ _ _ _ rz) Tryd.underlying27 rfl (unhide PS _ _)) rfl ⟨⟨_, by rw [(unhide F).2.2]; rfl, (unhide F).2.1.1⟩, (unhide F).2.1.2⟩
  | true =>
    have HR := unhide HL
    rw [if_pos rfl] at HR
    have HL2 := hide HR
    have k0 := Below.at (unhide S5) (by have := unhide SX; omega) (unhide Q0)
    have Q5 := hide q5
    clear HR HL
    go_wp2_with (first
      | (refine wpList_load_row rfl 27 (.tmp 4) rfl w.heap.size rfl 27 _ (0, 0) _ k0 Tryd.underlying27 rfl (unhide PS _ _) ?_)
      | (refine wpList_load_row rfl 79 (.tmp 11) rfl K rfl 79 _ (0, 0) _ q5 Tryd.underlying79 rfl (unhide KI) ?_))
    refine (unhide CP _ (unhide S5)).mono ?_
    rintro e w6 ⟨rfl, b6⟩
    have S6 : Hid (Below X.heap.size X w6) := hide ((unhide S5).trans (b6.mono (unhide S5).size))
    have V6 := hide ((unhide V5).below b6)
    have q6 := Below.at b6 (Array.getElem?_eq_some_iff.1 (unhide Q5)).1 (unhide Q5)
    clear b6 S5 V5 CP Q5 q5 k0
    by_cases hlt : ts.findIdx (isT o n) < ts.length
    · have hr : pIx (isT o n) ts = (ts.findIdx (isT o n) : Int) := by unfold pIx; rw [if_pos hlt]
      rw [hr]
      have HR := unhide HL2
      rw [if_pos hlt] at HR
      generalize ts.findIdx (isT o n) = J at *
      have d0 : (0 : Int) ≤ (J : Int) := by omega
      have F := hide (unhide ERR w6 13 HR (unhide S6) (unhide V6))
      have rz := (unhide F).1
      have r5 := (unhide V6).row
      clear HR HL2 CI S6 V6 q6 ERR hr hlt
      go_wp2_with (first
        | (refine wpList_load_row rfl 27 (.tmp 10) rfl G rfl 27 _ (0, 0) _ r5 Tryd.underlying27 rfl (unhide PS _ _) ?_)
        | (refine wpList_store_row rfl 27 (.tmp 8) (.tmp 28) rfl (w.heap.size + 1) _ rfl rfl 27 _ rz (unhide PS _ _) rfl one2 ?_))
      exact bodyPost_ret (results_row_tmp rfl _ _ (w.heap.size + 1) _ _ _ _ rfl (setRow_heap _ _ _ _ _ _ rz) Tryd.underlying27 rfl (unhide PS _ _)) rfl ⟨⟨_, by rw [(unhide F).2.2]; rfl, (unhide F).2.1.1⟩, (unhide F).2.1.2⟩
    · have hr : pIx (isT o n) ts = -1 := by unfold pIx; rw [if_neg hlt]
      rw [hr]
      have HR := unhide HL2
      rw [if_neg hlt] at HR
      have HL3 := hide HR
      have k0 := Below.at (unhide S6) (by have := unhide SX; omega) (unhide Q0)
      have c0 : w6.cell? ⟨w.heap.size, 0, none⟩ = some (.slice p1 ts.length c1) := cell_of_row _ _ _ _ _ _ k0
      clear HR HL2 hr hlt k0
      by_cases h32 : 32 ≤ ts.length
      · have HR := unhide HL3
        rw [if_pos h32] at HR
        have d32 : (32 : Int) ≤ (ts.length : Int) := by omega
        have F := hide (unhide ERR w6 6 HR (unhide S6) (unhide V6))
        have rz := (unhide F).1
        have r5 := (unhide V6).row
        clear HR HL3 CI S6 V6 q6 ERR
        go_wp2_with (first
          | (refine wpList_load_row rfl 27 (.tmp 10) rfl G rfl 27 _ (0, 0) _ r5 Tryd.underlying27 rfl (unhide PS _ _) ?_)
          | (refine wpList_store_row rfl 27 (.tmp 8) (.tmp 34) rfl (w.heap.size + 1) _ rfl rfl 27 _ rz (unhide PS _ _) rfl one2 ?_))
        exact bodyPost_ret (results_row_tmp rfl _ _ (w.heap.size + 1) _ _ _ _ rfl (setRow_heap _ _ _ _ _ _ rz) Tryd.underlying27 rfl (unhide PS _ _)) rfl ⟨⟨_, by rw [(unhide F).2.2]; rfl, (unhide F).2.1.1⟩, (unhide F).2.1.2⟩
      · have HR := unhide HL3
        rw [if_neg h32] at HR
        have d32 : ¬ (32 : Int) ≤ (ts.length : Int) := by omega
        have CI6 := hide (unhide CI K w6 (unhide S6) q6)
        clear HL3 CI ERR q6
        go_wp2_with fail
        refine (unhide CI6).mono ?_
        rintro e w7 ⟨rfl, b7⟩
        have S7 : Hid (Below X.heap.size X w7) := hide ((unhide S6).trans (b7.mono (unhide S6).size))
        have V7 := hide ((unhide V6).below b7)
        have k0 := Below.at (unhide S7) (by have := unhide SX; omega) (unhide Q0)
        have c7 : w7.cell? ⟨w.heap.size, 0, none⟩ = some (.slice p1 ts.length c1) := cell_of_row _ _ _ _ _ _ k0
        clear b7 S6 V6 CI6 c0 k0
        obtain ⟨RR, hRR⟩ : ∃ R, ts.findIdx (fun t => decide (0 < pOrd t.o t.n o n)) = R := ⟨_, rfl⟩
        have hRl : RR ≤ ts.length := by rw [← hRR]; exact List.findIdx_le_length
        have hpi : pIx (fun t => decide (0 < pOrd t.o t.n o n)) ts = if RR < ts.length then (RR : Int) else -1 := by unfold pIx; rw [hRR]
        rw [hRR] at HR
        rw [hpi]
        have HRl := hide hRl
        have HH := hide HR
        have kq : w7.cell? ⟨G, 0, none⟩ = some u1 := cell_of_row _ _ _ _ _ _ (unhide V7).row
        clear hRR hpi hRl HR
        by_cases hRn : RR < ts.length
        · rw [if_pos hRn]
          have dR : ¬ (RR : Int) < 0 := by omega
          go_upto_region 12 with fail
          have hnew := al1 w7 (.cells (tokC ⟨o, n, m, 0, 0, 0, 0⟩).toArray 38)
          have bN : Below w7.heap.size w7 (w7.alloc (.cells (tokC ⟨o, n, m, 0, 0, 0, 0⟩).toArray 38)) := (Below.refl _ _).alloc (Nat.le_refl _) _
          have V7' := (unhide V7).below bN
          have S7' : Below X.heap.size X (w7.alloc (.cells (tokC ⟨o, n, m, 0, 0, 0, 0⟩).toArray 38)) := (unhide S7).trans (bN.mono (unhide S7).size)
          have hne : some w7.heap.size ≠ u1.ownBlock := fun e => by
            rcases (unhide V7).tok.2 with ⟨rfl, _⟩ | ⟨g2, cap2, cur2, rfl, _, hg2, _⟩
            · cases e
            · simp only [Value.ownBlock, Option.some.injEq] at e
              have := (Array.getElem?_eq_some_iff.1 hg2).1
              omega
          have CC := hide (insT_calls ts (unhide HN1) RR (unhide HRl) ⟨o, n, m, 0, 0, 0, 0⟩ u1 X.heap.size w7.heap.size (w7.alloc (.cells (tokC ⟨o, n, m, 0, 0, 0, 0⟩).toArray 38)) (by rw [World.size_alloc]; have := (unhide S7).size; omega) V7'.tok hnew hne)
          obtain ⟨Y, hY⟩ : ∃ Y, w7.alloc (.cells (tokC ⟨o, n, m, 0, 0, 0, 0⟩).toArray 38) = Y := ⟨_, rfl⟩
          rw [hY] at CC V7' S7'
          have VY := hide V7'
          have SY := hide S7'
          have HY := hide hY
          have eC : tokC ⟨o, n, m, 0, 0, 0, 0⟩ = [.int .u32 (o : Int), .string (str n), .int .u64 (m : Int), .int .u64 0, .int .u64 0, .int .u64 0, .int .u64 0] := rfl
          rw [eC] at HY
          clear hnew bN V7' S7' hne hY V7 S7 eC c7
          go_wp2_with (first
            | (rw [unhide HY])
            | fail)
          refine (unhide CC).mono ?_
          rintro e w8 ⟨⟨x2, rfl, own6⟩, kp6, zz6, b6⟩
          obtain ⟨pz, cz, nz, hx2⟩ : ∃ pz cz nz, x2 = .slice pz nz cz := by
            obtain ⟨pz, cz, h, _⟩ := EL_of_owns tokC_len own6
            exact ⟨pz, cz, _, h⟩
          have hnG := not_owned (unhide VY).tok (unhide VY).row (by decide)
          have row6 := (kp6 G (Array.getElem?_eq_some_iff.1 (unhide VY).row).1 hnG).trans (unhide VY).row
          have hol6 := vowns_kept (unhide VY).hol (unhide VY).tok (by decide) kp6
          have S8 : Below X.heap.size X w8 := (unhide SY).trans b6
          have f6 : w8.frozen? ⟨G, 0, none⟩ = false := frozen_in_row row6
          have c6 : w8.cell? ⟨G, 0, none⟩ = some u1 := cell_of_row _ _ _ _ _ _ row6
          have one6 := two_one x2 u2 (owns_one own6) (owns_one hol6)
          have r6 := heap_setCell_same w8 G 0 #[u1, u2] _ x2 row6
          have V9 : QV (w8.setCell ⟨G, 0, none⟩ x2) X.heap.size G x2 u2 (ts.insertIdx RR ⟨o, n, m, 0, 0, 0, 0⟩) hs :=
            ⟨r6, vowns_other own6 (fun k' hk' => Below.heap_setCell w8 ⟨G, 0, none⟩ _ k' hk') _ _ (by decide) row6, vowns_other hol6 (fun k' hk' => Below.heap_setCell w8 ⟨G, 0, none⟩ _ k' hk') _ _ (by decide) row6⟩
          have S9 : Below X.heap.size X (w8.setCell ⟨G, 0, none⟩ x2) := S8.setCell (p := ⟨G, 0, none⟩) (unhide HGX) _
          have r8 := Below.at S9 (by have := unhide SX; omega) (unhide QR)
          have HE := unhide HH
          have F1 : Hid (PO ((w8.setCell ⟨G, 0, none⟩ x2).setRow (w.heap.size + 1) #[x2, u2]) w.heap.size (.agg #[x2, u2]) R.1 hs) := hide (by rw [HE]; exact (V9.out _ _ r8).base (by have := (unhide B0).size; omega))
          have F2 : Hid (Below w.heap.size w ((w8.setCell ⟨G, 0, none⟩ x2).setRow (w.heap.size + 1) #[x2, u2])) := hide (((unhide B0).trans (S9.mono (unhide B0).size)).trans (below_setRow (Below.refl _ _) (by omega) _))
          have F3 : Hid (R.2 = 0) := hide (by rw [HE])
          have r7 := V9.row
          clear own6 kp6 zz6 b6 hnG row6 hol6 S8 r6 V9 S9 CC VY SY HY kq HE HH
          subst hx2
          go_upto_region 13 with fail
          obtain ⟨W7, hW7⟩ : ∃ W, w8.setCell ⟨G, 0, none⟩ (.slice pz nz cz) = W := ⟨_, rfl⟩
          rw [hW7] at r7 r8 F1 F2
          rw [hW7]
          clear f6 c6 hW7
          go_wp2_with (first
            | (refine wpList_load_row rfl 27 (.tmp 10) rfl G rfl 27 _ (0, 0) _ r7 Tryd.underlying27 rfl (unhide PS _ _) ?_)
            | (refine wpList_store_row rfl 27 (.tmp 8) (.tmp 54) rfl (w.heap.size + 1) _ rfl rfl 27 _ r8 (unhide PS _ _) rfl one6 ?_))
          exact bodyPost_ret (results_row_tmp rfl _ _ (w.heap.size + 1) _ _ _ _ rfl (setRow_heap _ _ _ _ _ _ r8) Tryd.underlying27 rfl (unhide PS _ _)) rfl ⟨⟨_, by rw [unhide F3]; rfl, unhide F1⟩, unhide F2⟩
        · rw [if_neg hRn]
          have hRe : RR = ts.length := by have := unhide HRl; omega
          subst hRe
          go_upto_region 12 with fail
          have hnew := al1 w7 (.cells (tokC ⟨o, n, m, 0, 0, 0, 0⟩).toArray 38)
          have bN : Below w7.heap.size w7 (w7.alloc (.cells (tokC ⟨o, n, m, 0, 0, 0, 0⟩).toArray 38)) := (Below.refl _ _).alloc (Nat.le_refl _) _
          have V7' := (unhide V7).below bN
          have S7' : Below X.heap.size X (w7.alloc (.cells (tokC ⟨o, n, m, 0, 0, 0, 0⟩).toArray 38)) := (unhide S7).trans (bN.mono (unhide S7).size)
          have hne : some w7.heap.size ≠ u1.ownBlock := fun e => by
            rcases (unhide V7).tok.2 with ⟨rfl, _⟩ | ⟨g2, cap2, cur2, rfl, _, hg2, _⟩
            · cases e
            · simp only [Value.ownBlock, Option.some.injEq] at e
              have := (Array.getElem?_eq_some_iff.1 hg2).1
              omega
          have CC := hide (insT_calls ts (unhide HN1) ts.length (unhide HRl) ⟨o, n, m, 0, 0, 0, 0⟩ u1 X.heap.size w7.heap.size (w7.alloc (.cells (tokC ⟨o, n, m, 0, 0, 0, 0⟩).toArray 38)) (by rw [World.size_alloc]; have := (unhide S7).size; omega) V7'.tok hnew hne)
          obtain ⟨Y, hY⟩ : ∃ Y, w7.alloc (.cells (tokC ⟨o, n, m, 0, 0, 0, 0⟩).toArray 38) = Y := ⟨_, rfl⟩
          rw [hY] at CC V7' S7'
          have VY := hide V7'
          have SY := hide S7'
          have HY := hide hY
          have eC : tokC ⟨o, n, m, 0, 0, 0, 0⟩ = [.int .u32 (o : Int), .string (str n), .int .u64 (m : Int), .int .u64 0, .int .u64 0, .int .u64 0, .int .u64 0] := rfl
          rw [eC] at HY
          clear hnew bN V7' S7' hne hY V7 S7 eC c7
          go_wp2_with (first
            | (rw [unhide HY])
            | fail)
          refine (unhide CC).mono ?_
          rintro e w8 ⟨⟨x2, rfl, own6⟩, kp6, zz6, b6⟩
          obtain ⟨pz, cz, nz, hx2⟩ : ∃ pz cz nz, x2 = .slice pz nz cz := by
            obtain ⟨pz, cz, h, _⟩ := EL_of_owns tokC_len own6
            exact ⟨pz, cz, _, h⟩
          have hnG := not_owned (unhide VY).tok (unhide VY).row (by decide)
          have row6 := (kp6 G (Array.getElem?_eq_some_iff.1 (unhide VY).row).1 hnG).trans (unhide VY).row
          have hol6 := vowns_kept (unhide VY).hol (unhide VY).tok (by decide) kp6
          have S8 : Below X.heap.size X w8 := (unhide SY).trans b6
          have f6 : w8.frozen? ⟨G, 0, none⟩ = false := frozen_in_row row6
          have c6 : w8.cell? ⟨G, 0, none⟩ = some u1 := cell_of_row _ _ _ _ _ _ row6
          have one6 := two_one x2 u2 (owns_one own6) (owns_one hol6)
          have r6 := heap_setCell_same w8 G 0 #[u1, u2] _ x2 row6
          have V9 : QV (w8.setCell ⟨G, 0, none⟩ x2) X.heap.size G x2 u2 (ts.insertIdx ts.length ⟨o, n, m, 0, 0, 0, 0⟩) hs :=
            ⟨r6, vowns_other own6 (fun k' hk' => Below.heap_setCell w8 ⟨G, 0, none⟩ _ k' hk') _ _ (by decide) row6, vowns_other hol6 (fun k' hk' => Below.heap_setCell w8 ⟨G, 0, none⟩ _ k' hk') _ _ (by decide) row6⟩
          have S9 : Below X.heap.size X (w8.setCell ⟨G, 0, none⟩ x2) := S8.setCell (p := ⟨G, 0, none⟩) (unhide HGX) _
          have r8 := Below.at S9 (by have := unhide SX; omega) (unhide QR)
          have HE := unhide HH
          have F1 : Hid (PO ((w8.setCell ⟨G, 0, none⟩ x2).setRow (w.heap.size + 1) #[x2, u2]) w.heap.size (.agg #[x2, u2]) R.1 hs) := hide (by rw [HE]; exact (V9.out _ _ r8).base (by have := (unhide B0).size; omega))
          have F2 : Hid (Below w.heap.size w ((w8.setCell ⟨G, 0, none⟩ x2).setRow (w.heap.size + 1) #[x2, u2])) := hide (((unhide B0).trans (S9.mono (unhide B0).size)).trans (below_setRow (Below.refl _ _) (by omega) _))
          have F3 : Hid (R.2 = 0) := hide (by rw [HE])
          have r7 := V9.row
          clear own6 kp6 zz6 b6 hnG row6 hol6 S8 r6 V9 S9 CC VY SY HY kq HE HH
          subst hx2
          go_upto_region 13 with fail
          obtain ⟨W7, hW7⟩ : ∃ W, w8.setCell ⟨G, 0, none⟩ (.slice pz nz cz) = W := ⟨_, rfl⟩
          rw [hW7] at r7 r8 F1 F2
          rw [hW7]
          clear f6 c6 hW7
          go_wp2_with (first
            | (refine wpList_load_row rfl 27 (.tmp 10) rfl G rfl 27 _ (0, 0) _ r7 Tryd.underlying27 rfl (unhide PS _ _) ?_)
            | (refine wpList_store_row rfl 27 (.tmp 8) (.tmp 54) rfl (w.heap.size + 1) _ rfl rfl 27 _ r8 (unhide PS _ _) rfl one6 ?_))
          exact bodyPost_ret (results_row_tmp rfl _ _ (w.heap.size + 1) _ _ _ _ rfl (setRow_heap _ _ _ _ _ _ r8) Tryd.underlying27 rfl (unhide PS _ _)) rfl ⟨⟨_, by rw [unhide F3]; rfl, unhide F1⟩, unhide F2⟩
end Go.Proofs.YtjfnaedcdmmigaaDoor

namespace Go.Proofs.YtjfnaedcdmmigaaDoor
open Go.RowKit

theorem wpQuiet_load_mid {P : Program} {ops : Array Oper} {C : World → Prop} {Q : Act → Prop} {a : Act} {o : Oper} {rest : List Oper} (hw : Region.wanted o (yielded ops a.tmps) = true) (ty : TypeId) (x : Operand) (ho : o.op = .load ty x)
    (b off : Nat) (hx : a.eval x = .pointer (some ⟨b, off, none⟩)) (cs : List Value) (d : TypeDesc) (hc : ∀ w, C w → w.rangeAt b off cs)
    (hu : P.underlying ty = some d) (hd : d.isRow = true) (hi : (P.info? ty).map (·.size) = some cs.length)
    (h : wpQuiet P ops C Q rest (a.put o.dst (.agg cs.toArray))) : wpQuiet P ops C Q (o :: rest) a := by
  show if _ then _ else _
  rw [if_pos hw]
  refine ⟨.agg cs.toArray, fun w hC => ?_, h⟩
  have hl := run_loadVar_mid w b off ty cs d (hc w hC) hu hd hi
  unfold Oper.quietAt execOp
  simp only [ho, hx, Instr.loadAt, Instr.sureAddr, Sem.run_bind, Sem.run_pure, Result.andThen_ok, hl]
  exact ⟨rfl, rfl⟩
theorem wpQuiet_eql {P : Program} {ops : Array Oper} {C : World → Prop} {Q : Act → Prop} {a : Act} {o : Oper} {rest : List Oper} (hw : Region.wanted o (yielded ops a.tmps) = true) (t t' : TypeId) (x y : Operand) (ho : o.op = .binOp .eql t x y t')
    (u v : Array Value) (hx : a.eval x = .agg u) (hy : a.eval y = .agg v) (hgt : P.eqGuardType P.depth t = false) (b : Bool) (he : ∀ w, (binOp .eql t (.agg u) (.agg v)).run P w = .ok (.bool b) w)
    (h : wpQuiet P ops C Q rest (a.put o.dst (.bool b))) : wpQuiet P ops C Q (o :: rest) a := by
  show if _ then _ else _
  rw [if_pos hw]
  refine ⟨.bool b, fun w hC => ?_, h⟩
  have hg : (eqGuard .eql t x y (.agg u) (.agg v)).run P w = .ok () w := run_eqGuard_agg w .eql t x y u v hgt
  unfold Oper.quietAt execOp
  simp only [ho, hx, hy, Sem.run_bind, hg, Result.andThen_ok, he]
  exact ⟨rfl, rfl⟩
end Go.Proofs.YtjfnaedcdmmigaaDoor

namespace Go.Proofs.YtjfnaedcdmmigaaDoor
open Go Go.RowKit
set_option linter.unusedSimpArgs false
set_option linter.unusedVariables false

theorem rangeAt_belowP {w w' : World} {B b off : Nat} {cs : List Value} (h : w.rangeAt b off cs) (hb : Below B w w') (hB : b < B) : w'.rangeAt b off cs := fun i v hv => by
  rw [hb.cell (p := ⟨b, off + i, none⟩) hB]; exact h i v hv
set_option maxRecDepth 100000 in
theorem tok_neq (t : Tkn) (w : World) : (binOp .neq 38 (.agg (tokC t).toArray) (.agg (tokC t).toArray)).run Tryd.prog w = .ok (.bool false) w := by
  unfold tokC
  go_simp
set_option maxRecDepth 100000 in
theorem hol_neq (t : Hol) (w : World) : (binOp .neq 75 (.agg (holC t).toArray) (.agg (holC t).toArray)).run Tryd.prog w = .ok (.bool false) w := by
  unfold holC
  go_simp
set_option maxHeartbeats 4000000 in
set_option maxRecDepth 100000 in
theorem psame_calls (ts : List Tkn) (hs : List Hol) (hn1 : ts.length ≤ 1000) (hn2 : hs.length ≤ 1000) (v1 v2 : Value) (w : World) (P1 : PM w v1 ts hs) (P2 : PM w v2 ts hs) :
    Calls Tryd.prog 10 #[v1, v2] w fun e w' => e = .returned (.bool true) ∧ Below w.heap.size w w' := by
  obtain ⟨p1, c1, p2, c2, rfl, hT1, hH1⟩ := P1
  obtain ⟨p3, c3, p4, c4, rfl, hT2, hH2⟩ := P2
  obtain ⟨q0, q1⟩ := al2 w (.cells #[.slice p1 ts.length c1, .slice p2 hs.length c2] 27) (.cells #[.slice p3 ts.length c3, .slice p4 hs.length c4] 27)
  have b0 := bel2 w (.cells #[.slice p1 ts.length c1, .slice p2 hs.length c2] 27) (.cells #[.slice p3 ts.length c3, .slice p4 hs.length c4] 27)
  have sX : ((w.alloc (.cells #[.slice p1 ts.length c1, .slice p2 hs.length c2] 27)).alloc (.cells #[.slice p3 ts.length c3, .slice p4 hs.length c4] 27)).heap.size = w.heap.size + 1 + 1 := by simp
  obtain ⟨n, hn⟩ : ∃ n, ts.length = n := ⟨_, rfl⟩
  obtain ⟨m, hm⟩ : ∃ n, hs.length = n := ⟨_, rfl⟩
  rw [hn] at hn1
  rw [hm] at hn2
  rw [hn, hm] at q0 q1 b0 sX ⊢
  obtain ⟨X, hX⟩ : ∃ X, (w.alloc (.cells #[.slice p1 n c1, .slice p2 m c2] 27)).alloc (.cells #[.slice p3 n c3, .slice p4 m c4] 27) = X := ⟨_, rfl⟩
  have HX := hide hX
  rw [hX] at q0 q1 b0 sX
  have T1 := hide (hT1.below b0)
  have T2 := hide (hT2.below b0)
  have H1 := hide (hH1.below b0)
  have H2 := hide (hH2.below b0)
  have HN := hide hn
  have HM := hide hm
  have Q0 := hide q0
  have Q1 := hide q1
  have B0 := hide b0
  have SX := hide sX
  have CL : Hid (∀ W, Below X.heap.size X W → (W.cell? ⟨w.heap.size, 0, none⟩ = some (.slice p1 n c1) ∧ W.cell? ⟨w.heap.size, 1, none⟩ = some (.slice p2 m c2)) ∧ W.cell? ⟨w.heap.size + 1, 0, none⟩ = some (.slice p3 n c3) ∧ W.cell? ⟨w.heap.size + 1, 1, none⟩ = some (.slice p4 m c4)) := hide fun W hW => by
    have a0 := Below.at hW (by omega) q0
    have a1 := Below.at hW (by omega) q1
    exact ⟨⟨by rw [cell_of_row _ _ _ _ _ _ a0]; rfl, by rw [cell_of_row _ _ _ _ _ _ a0]; rfl⟩, by rw [cell_of_row _ _ _ _ _ _ a1]; rfl, by rw [cell_of_row _ _ _ _ _ _ a1]; rfl⟩
  have k00 := ((unhide CL) X (Below.refl _ _)).1.1
  have k01 := ((unhide CL) X (Below.refl _ _)).1.2
  have k10 := ((unhide CL) X (Below.refl _ _)).2.1
  have k11 := ((unhide CL) X (Below.refl _ _)).2.2
  clear hT1 hT2 hH1 hH2 hn hm hX q0 q1 b0 sX
  go_enter Tryd.func10, Tryd.ntmps10
  go_upto_region 1 with fail
  change Code.wp _ _ _ _ ((w.alloc (.cells #[.slice p1 n c1, .slice p2 m c2] 27)).alloc (.cells #[.slice p3 n c3, .slice p4 m c4] 27))
  rw [unhide HX]
  go_wp2
  clear k00 k01 k10 k11
  go_loopw [5, 26] (fun _ i wr => ∃ j : Nat, j ≤ n ∧ i = .int .i64 (j : Int) ∧ Below X.heap.size X wr) (fun _ i _ => n - (intOf i).toNat)
  case atStart => exact ⟨0, by omega, rfl, Below.refl _ _⟩
  case round =>
    obtain ⟨j, hj, rfl, hb⟩ := hrel
    by_cases hlt : j < n
    · have hd : decide (j < n) = true := by simpa using hlt
      have bk : (j : Int) < (n : Int) := by omega
      obtain ⟨y, hy⟩ : ∃ y, ts[j]? = some y := ⟨_, List.getElem?_eq_getElem (by rw [unhide HN]; exact hlt)⟩
      obtain ⟨b1, off1, rfl, hz1, hr1⟩ := EL.row tokC_len (by decide) ((unhide T1).below hb) hy
      obtain ⟨b2, off2, rfl, hz2, hr2⟩ := EL.row tokC_len (by decide) ((unhide T2).below hb) hy
      have hC : ∀ d os, Below X.heap.size X (Sort.grow (redrawn wr d) os) := fun d os => hb.trans ((below_regrown wr d os).mono hb.size)
      have r1 : Hid (∀ w', (∃ p : Regrown, w' = Sort.grow (redrawn wr p.d) p.os) → w'.rangeAt b1 (off1 + j * 7) (tokC y)) := hide fun w' ⟨p, hp⟩ => by rw [hp]; exact rangeAt_belowP hr1 (below_regrown wr p.d p.os) hz1
      have r2 : Hid (∀ w', (∃ p : Regrown, w' = Sort.grow (redrawn wr p.d) p.os) → w'.rangeAt b2 (off2 + j * 7) (tokC y)) := hide fun w' ⟨p, hp⟩ => by rw [hp]; exact rangeAt_belowP hr2 (below_regrown wr p.d p.os) hz2
      have c1' : ∀ d os, (Sort.grow (redrawn wr d) os).cell? ⟨w.heap.size, 0, none⟩ = some (.slice (some ⟨b1, off1, none⟩) n c1) := fun d os => ((unhide CL) _ (hC d os)).1.1
      have c2' : ∀ d os, (Sort.grow (redrawn wr d) os).cell? ⟨w.heap.size + 1, 0, none⟩ = some (.slice (some ⟨b2, off2, none⟩) n c3) := fun d os => ((unhide CL) _ (hC d os)).2.1
      have hsz : (Tryd.prog.info? 38).map (·.size) = some (tokC y).length := tokSz y
      have hne : ∀ W, (binOp .neq 38 (.agg (tokC y).toArray) (.agg (tokC y).toArray)).run Tryd.prog W = .ok (.bool false) W := fun W => tok_neq y W
      generalize tokC y = C at *
      clear hy hC hr1 hr2 hz1 hz2
      go_wp2_with fail
      refine wp_region_below mixed (by kernel_rfl) ?_
      quiet_step (fail)
      quiet_step (fail)
      quiet_step (fail)
      quiet_step (fail)
      refine wpQuiet_load_mid rfl 38 (.tmp 32) rfl b1 (off1 + j * 7) rfl C _ (unhide r1) Tryd.underlying38 rfl hsz ?_
      quiet_step (fail)
      quiet_step (fail)
      quiet_step (fail)
      quiet_step (fail)
      refine wpQuiet_load_mid rfl 38 (.tmp 37) rfl b2 (off2 + j * 7) rfl C _ (unhide r2) Tryd.underlying38 rfl hsz ?_
      quiet_step (fail)
      refine wpQuiet_nil ?_
      intro w3 hb3
      clear hne r1 r2 c1' c2' hsz
      go_wp2
      go_roundw
      case rel => exact ⟨j + 1, by omega, by go_num, hb.trans (hb3.mono hb.size)⟩
      case measure => simp [intOf]; omega
    · have hd : decide (j < n) = false := by simpa using hlt
      have k01 := ((unhide CL) wr hb).1.2
      have BX := hide hb
      clear hlt hb
      go_wp2
      clear k01 hd
      go_loopw [6, 44] (fun _ i wr => ∃ j : Nat, j ≤ m ∧ i = .int .i64 (j : Int) ∧ Below X.heap.size X wr) (fun _ i _ => m - (intOf i).toNat)
      case atStart => exact ⟨0, by omega, rfl, unhide BX⟩
      case round =>
        obtain ⟨j2, hj2, rfl, hb⟩ := hrel
        by_cases hlt : j2 < m
        · have hd : decide (j2 < m) = true := by simpa using hlt
          have bk : (j2 : Int) < (m : Int) := by omega
          obtain ⟨y, hy⟩ : ∃ y, hs[j2]? = some y := ⟨_, List.getElem?_eq_getElem (by rw [unhide HM]; exact hlt)⟩
          obtain ⟨b1, off1, rfl, hz1, hr1⟩ := EL.row holC_len (by decide) ((unhide H1).below hb) hy
          obtain ⟨b2, off2, rfl, hz2, hr2⟩ := EL.row holC_len (by decide) ((unhide H2).below hb) hy
          have hC : ∀ d os, Below X.heap.size X (Sort.grow (redrawn wr d) os) := fun d os => hb.trans ((below_regrown wr d os).mono hb.size)
          have r1 : Hid (∀ w', (∃ p : Regrown, w' = Sort.grow (redrawn wr p.d) p.os) → w'.rangeAt b1 (off1 + j2 * 4) (holC y)) := hide fun w' ⟨p, hp⟩ => by rw [hp]; exact rangeAt_belowP hr1 (below_regrown wr p.d p.os) hz1
          have r2 : Hid (∀ w', (∃ p : Regrown, w' = Sort.grow (redrawn wr p.d) p.os) → w'.rangeAt b2 (off2 + j2 * 4) (holC y)) := hide fun w' ⟨p, hp⟩ => by rw [hp]; exact rangeAt_belowP hr2 (below_regrown wr p.d p.os) hz2
          have c1' : ∀ d os, (Sort.grow (redrawn wr d) os).cell? ⟨w.heap.size, 1, none⟩ = some (.slice (some ⟨b1, off1, none⟩) m c2) := fun d os => ((unhide CL) _ (hC d os)).1.2
          have c2' : ∀ d os, (Sort.grow (redrawn wr d) os).cell? ⟨w.heap.size + 1, 1, none⟩ = some (.slice (some ⟨b2, off2, none⟩) m c4) := fun d os => ((unhide CL) _ (hC d os)).2.2
          have hsz : (Tryd.prog.info? 75).map (·.size) = some (holC y).length := sizeH y
          have hne : ∀ W, (binOp .neq 75 (.agg (holC y).toArray) (.agg (holC y).toArray)).run Tryd.prog W = .ok (.bool false) W := fun W => hol_neq y W
          generalize holC y = C at *
          clear hy hC hr1 hr2 hz1 hz2
          go_wp2_with fail
          refine wp_region_below mixed (by kernel_rfl) ?_
          quiet_step (fail)
          quiet_step (fail)
          quiet_step (fail)
          quiet_step (fail)
          refine wpQuiet_load_mid rfl 75 (.tmp 50) rfl b1 (off1 + j2 * 4) rfl C _ (unhide r1) Tryd.underlying75 rfl hsz ?_
          quiet_step (fail)
          quiet_step (fail)
          quiet_step (fail)
          quiet_step (fail)
          refine wpQuiet_load_mid rfl 75 (.tmp 55) rfl b2 (off2 + j2 * 4) rfl C _ (unhide r2) Tryd.underlying75 rfl hsz ?_
          quiet_step (fail)
          refine wpQuiet_nil ?_
          intro w3 hb3
          clear hne r1 r2 c1' c2' hsz
          go_wp2
          go_roundw
          case rel => exact ⟨j2 + 1, by omega, by go_num, hb.trans (hb3.mono hb.size)⟩
          case measure => simp [intOf]; omega
        · have hd : decide (j2 < m) = false := by simpa using hlt
          have F := hide ((unhide B0).trans (hb.mono (unhide B0).size))
          go_wp2
          go_ret
          exact ⟨rfl, unhide F⟩
end Go.Proofs.YtjfnaedcdmmigaaDoor

namespace Go.Proofs.YtjfnaedcdmmigaaDoor
open Go.RowKit
set_option linter.unusedSimpArgs false
set_option linter.unusedVariables false

/-- A number's lowest bytes, the highest of them first. -/
def pBig (n width : Nat) : List UInt8 := (List.range width).map fun i => UInt8.ofNat (n / 2 ^ (8 * (width - 1 - i)))
theorem pBig_length (n width : Nat) : (pBig n width).length = width := by simp [pBig]
theorem pBig_at (n width i : Nat) (h : i < width) : (pBig n width).getD i 0 = UInt8.ofNat (n / 2 ^ (8 * (width - 1 - i))) := by
  simp [pBig, h]
theorem drop_cons' {α : Type} (l : List α) (k : Nat) (d : α) (h : k < l.length) : l.drop k = l.getD k d :: l.drop (k + 1) := by
  rw [List.drop_eq_getElem_cons h]; simp [h]

set_option maxHeartbeats 400000 in
set_option maxRecDepth 100000 in
theorem number_calls (n width : Nat) (hw : width ≤ 8) (hw1 : 1 ≤ width) (w : World) :
    Calls Tryd.prog 107 #[.int .u64 (n : Int), .int .i64 (width : Int)] w fun e w' => e = .returned (.string (str (pBig n width))) ∧ Below w.heap.size w w' := by
  have mk := make_bytes width (by omega)
  have hlen := pBig_length n width
  have hat := pBig_at n width
  generalize hP : pBig n width = P at *
  have HP := hide hP
  have Hlen := hide hlen
  have Hat := hide hat
  clear hP hlen hat
  go_enter Tryd.func107, Tryd.ntmps107
  go_wp2
  go_loopw [11] (fun i wr => ∃ k : Nat, k ≤ width ∧ i = .int .i64 k ∧ Below w.heap.size w wr ∧ wr.heap[w.heap.size]? = some (.cells (bc (List.replicate (width - k) 0 ++ P.drop (width - k))) 5 (0, 0))) (fun i _ => width - (intOf i).toNat)
  case atStart =>
    refine ⟨0, by omega, rfl, (Below.refl _ _).alloc (Nat.le_refl _) _, ?_⟩
    rw [al1, List.drop_of_length_le (by rw [unhide Hlen]; omega)]; simp
  case round =>
    obtain ⟨k, hk, rfl, hb, q⟩ := hrel
    by_cases hlt : k < width
    · obtain ⟨j, hj, ej⟩ : ∃ j : Nat, Hid (width - 1 - k = j) ∧ (width : Int) - 1 - (k : Int) = (j : Int) := ⟨_, rfl, by omega⟩
      have hjw : j < width := by have := unhide hj; omega
      have hsp : List.replicate (width - k) (0 : UInt8) ++ P.drop (width - k) = List.replicate j 0 ++ 0 :: P.drop (j + 1) := by
        have : width - k = j + 1 := by have := unhide hj; omega
        rw [this, List.replicate_succ']; simp
      rw [hsp] at q
      have hl : (List.replicate j 0 ++ 0 :: P.drop (j + 1) : List UInt8).length = width := by simp [unhide Hlen]; omega
      have c : wr.cell? ⟨w.heap.size, j, none⟩ = some (.int .u8 (((List.replicate j 0 ++ 0 :: P.drop (j + 1) : List UInt8).getD j 0).toNat : Int)) := by
        rw [cell_of_row _ _ _ _ _ _ q]; exact bc_at _ _ (by omega)
      have f : wr.frozen? ⟨w.heap.size, j, none⟩ = false := frozen_of_row _ _ _ _ _ q
      have b1 : (0 : Int) ≤ j ∧ (j : Int) < width := by omega
      obtain ⟨s, hs, es⟩ : ∃ s : Nat, Hid (8 * k = s) ∧ (8 : Int) * (k : Int) = (s : Int) := ⟨_, rfl, by omega⟩
      have hs64 : s ≤ 56 := by have := unhide hs; omega
      have hdk : decide ((k : Int) < (width : Int)) = true := by simp; omega
      generalize hv : (List.replicate j 0 ++ 0 :: P.drop (j + 1) : List UInt8).getD j 0 = v at c
      have Q := hide q
      clear hl hv mk q hsp
      go_wp2
      go_roundw
      case rel =>
        refine ⟨k + 1, by omega, by go_num, hb.setCell (by simp) _, ?_⟩
        rw [byte_mod, ← unhide hs, heap_setCell_same _ _ _ _ _ _ (unhide Q), bc_set _ _ _ _ _ (by simp)]
        have e1 : width - (k + 1) = j := by have := unhide hj; omega
        have e2 := unhide Hat j hjw
        have e3 : width - 1 - j = k := by have := unhide hj; omega
        rw [e3] at e2
        rw [e1, drop_cons' P j 0 (by rw [unhide Hlen]; omega), e2]; simp
      case measure => simp [intOf]; omega
    · have q' : wr.heap[w.heap.size]? = some (.cells (bc P) 5 (0, 0)) := by
        rw [q, show width - k = 0 by omega]; simp
      have hcv := run_convert_bytes_back (P := Tryd.prog) wr 167 9 5 ⟨w.heap.size, 0, none⟩ width P Tryd.underlying167 Tryd.underlying5 Tryd.underlying9 (fun j hj => by
        have hadd : (⟨w.heap.size, 0, none⟩ : Addr).add j = ⟨w.heap.size, j, none⟩ := by unfold Addr.add; split <;> simp_all
        rw [hadd, cell_of_row _ _ _ _ _ _ q', bc_at _ _ hj]; simp [hj])
      rw [unhide Hlen] at hcv
      have hd : decide ((k : Int) < (width : Int)) = false := by simp; omega
      clear q q' mk
      go_wp2
      go_ret
      exact ⟨by rfl, hb⟩
end Go.Proofs.YtjfnaedcdmmigaaDoor
