/-
  Unlock.
-/
/-
  Mint.
-/
/-
  Lock.
-/
/-
  Burn.
-/
import Derived.Test.YtjfnaedcdmmigaaDoorJ5
import Derived.Test.YtjfnaedcdmmigaaDoorJ0
namespace Go.Proofs.YtjfnaedcdmmigaaDoor
open Go Go.RowKit
set_option linter.unusedSimpArgs false
set_option linter.unusedVariables false

/-- What an Unlock leaves. -/
def pUnlock (ts : List Tkn) (hs : List Hol) (o : Nat) (n a : List UInt8) (k : Nat) : List Tkn × List Hol × Nat :=
  match pKn ts o n with
  | none => (ts, hs, 40)
  | some t => if t.lk - t.ul < k then (ts, hs, 11) else if t.ul + k < 18446744073709551616 then pGB ts hs { t with ul := t.ul + k } a k else (ts, hs, 10)
/-- What a Mint leaves. -/
def pMint (ts : List Tkn) (hs : List Hol) (o : Nat) (n a : List UInt8) (k : Nat) : List Tkn × List Hol × Nat :=
  match pKn ts o n with
  | none => (ts, hs, 40)
  | some t => if t.mi + k < 18446744073709551616 then (if (t.mi - t.bu) + k ≤ t.cap then pGB ts hs { t with mi := t.mi + k } a k else (ts, hs, 12)) else (ts, hs, 10)
set_option maxHeartbeats 4000000 in
set_option maxRecDepth 1000000 in
theorem unlock_calls (ts : List Tkn) (hs : List Hol) (hn1 : ts.length ≤ 1000) (hn2 : hs.length ≤ 999) (htk : ∀ t ∈ ts, t.ok) (hok : ∀ h ∈ hs, h.ok) (v : Value) (o : Nat) (n a : List UInt8) (hnl : n.length ≤ 1000) (hal : a.length ≤ 1000) (k : Nat) (hk : k < 18446744073709551616) (w : World) (hU : UTabs w) (hP : PM w v ts hs) :
    Calls Tryd.prog 19 #[v, .int .u32 (o : Int), .string (str n), .string (str a), .int .u64 (k : Int)] w fun e w' => (∃ v', e = .returned (.tuple #[v', .int .i64 ((pUnlock ts hs o n a k).2.2 : Int)]) ∧ PO w' w.heap.size v' (pUnlock ts hs o n a k).1 (pUnlock ts hs o n a k).2.1) ∧ Below w.heap.size w w' := by
  obtain ⟨p1, c1, p2, c2, rfl, hT, hH⟩ := hP
  obtain ⟨q0, q1⟩ := al2 w (.cells #[.slice p1 ts.length c1, .slice p2 hs.length c2] 27) (.cells zPur 27)
  have b0 := bel2 w (.cells #[.slice p1 ts.length c1, .slice p2 hs.length c2] 27) (.cells zPur 27)
  have sX : ((w.alloc (.cells #[.slice p1 ts.length c1, .slice p2 hs.length c2] 27)).alloc (.cells zPur 27)).heap.size = w.heap.size + 1 + 1 := by simp
  obtain ⟨X, hX⟩ : ∃ X, (w.alloc (.cells #[.slice p1 ts.length c1, .slice p2 hs.length c2] 27)).alloc (.cells zPur 27) = X := ⟨_, rfl⟩
  have HX := hide hX
  rw [hX] at q0 q1 b0 sX
  have PX : PM X (.agg #[.slice p1 ts.length c1, .slice p2 hs.length c2]) ts hs := ⟨p1, c1, p2, c2, rfl, hT.below b0, hH.below b0⟩
  have CN := hide (known_calls ts hs hn1 (by omega) _ o n X PX)
  have CT := hide fun W (hW : Below X.heap.size X W) => twin_calls ts hs hn1 (by omega) _ W (PX.below hW)
  have QR := hide q1
  have Q0 := hide q0
  have B0 := hide b0
  have SX := hide sX
  have PS := hide fun v1 v2 => purSz v1 v2
  cases hK : pKn ts o n with
  | none =>
    have hR : pUnlock ts hs o n a k = (ts, hs, 40) := by unfold pUnlock; rw [hK]
    rw [hR]
    rw [hK, Option.getD_none, Option.isSome_none] at CN
    obtain ⟨TT, hTT⟩ : ∃ t, zTok = t := ⟨_, rfl⟩
    rw [hTT] at CN
    clear hT hH hX PX q1 b0 sX hn1 hn2 hok htk hnl hal hU hR hk hTT hK
    unfold zPur at HX
    go_enter Tryd.func19, Tryd.ntmps19
    go_upto_region 1 with fail
    change Code.wp _ _ _ _ ((w.alloc (.cells #[.slice p1 ts.length c1, .slice p2 hs.length c2] 27)).alloc (.cells #[.slice none 0 0, .slice none 0 0] 27))
    rw [unhide HX]
    go_wp2_with (refine wpList_load_row rfl 27 (.tmp 5) rfl w.heap.size rfl 27 _ (0, 0) _ q0 Tryd.underlying27 rfl (unhide PS _ _) ?_)
    refine (unhide CN).mono ?_
    rintro e w2 ⟨rfl, b2⟩
    have S2 : Hid (Below X.heap.size X w2) := hide b2
    have tinf := tokSz TT
    have tone := tokOne TT
    clear b2 CN q0
    go_upto_region 2 with (refine wpList_store_newV rfl 38 (.tmp 12) (.tmp 22) rfl w2 _ _ (tokC TT).toArray rfl rfl tinf rfl tone ?_; intro w3 q3 b3 z3)
    have S3 : Hid (Below X.heap.size X w3) := hide ((unhide S2).trans (b3.mono (unhide S2).size))
    have HGB : Hid (X.heap.size ≤ w2.heap.size) := hide (unhide S2).size
    obtain ⟨G, hG⟩ : ∃ G, w2.heap.size = G := ⟨_, rfl⟩
    rw [hG] at q3 HGB
    simp only [hG]
    clear b3 z3 S2 hG tinf tone
    have k0 := Below.at (unhide S3) (by have := unhide SX; omega) (unhide Q0)
    clear q3 HGB
    go_wp2_with (refine wpList_load_row rfl 27 (.tmp 5) rfl w.heap.size rfl 27 _ (0, 0) _ k0 Tryd.underlying27 rfl (unhide PS _ _) ?_)
    refine (unhide CT _ (unhide S3)).mono ?_
    rintro e wz ⟨⟨v', rfl, po⟩, bz⟩
    obtain ⟨u1, u2, rfl, one⟩ := po.parts
    have SZ := (unhide S3).trans (bz.mono (unhide S3).size)
    have rz := Below.at SZ (by have := unhide SX; omega) (unhide QR)
    have F := hide (out_set (C := w.heap.size) po (by have := (unhide S3).size; have := (unhide B0).size; omega) (by omega) rz ((unhide B0).trans (SZ.mono (unhide B0).size)) #[u1, u2])
    clear po bz SZ k0
    go_wp2_with (refine wpList_store_row rfl 27 (.tmp 10) (.tmp 27) rfl (w.heap.size + 1) _ rfl rfl 27 _ rz (unhide PS _ _) rfl one ?_)
    exact bodyPost_ret (results_row_tmp rfl _ _ (w.heap.size + 1) _ _ _ _ rfl (setRow_heap _ _ _ _ _ _ rz) Tryd.underlying27 rfl (unhide PS _ _)) rfl ⟨⟨_, rfl, (unhide F).1⟩, (unhide F).2⟩
  | some t =>
    have hkey := kn_key hK
    have hto := htk t hkey.2.2
    rw [hK, Option.getD_some, Option.isSome_some] at CN
    have hR : pUnlock ts hs o n a k = if t.lk - t.ul < k then (ts, hs, 11) else if t.ul + k < 18446744073709551616 then pGB ts hs { t with ul := t.ul + k } a k else (ts, hs, 10) := by unfold pUnlock; rw [hK]
    have HL := hide hR
    obtain ⟨R, hRR⟩ : ∃ R, pUnlock ts hs o n a k = R := ⟨_, rfl⟩
    rw [hRR] at HL
    rw [hRR]
    have CO := hide fun W => out_calls t hto W
    have CA := hide fun W => amtAdd_calls t.ul k hto.u.2.1 hk W
    have CB := hide fun W (hW : Below X.heap.size X W) => gb_calls ts hs hn1 hn2 hok _ { t with ul := t.ul + k } a (by rw [show ({ t with ul := t.ul + k } : Tkn).n = t.n from rfl, hkey.2.1]; exact hnl) hal (by show (pKn ts t.o t.n).isSome = true; rw [hkey.1, hkey.2.1, hK]; rfl) k hk W ((hU.below' b0).below' hW) (PX.below hW)
    have HTT := hide hto
    obtain ⟨TT, hTT⟩ : ∃ t', t = t' := ⟨_, rfl⟩
    clear hT hH hX PX q1 b0 sX hn1 hn2 hok htk hnl hal hU hR hk hRR hkey hto hK
    subst hTT
    unfold zPur at HX
    go_enter Tryd.func19, Tryd.ntmps19
    go_upto_region 1 with fail
    change Code.wp _ _ _ _ ((w.alloc (.cells #[.slice p1 ts.length c1, .slice p2 hs.length c2] 27)).alloc (.cells #[.slice none 0 0, .slice none 0 0] 27))
    rw [unhide HX]
    go_wp2_with (refine wpList_load_row rfl 27 (.tmp 5) rfl w.heap.size rfl 27 _ (0, 0) _ q0 Tryd.underlying27 rfl (unhide PS _ _) ?_)
    refine (unhide CN).mono ?_
    rintro e w2 ⟨rfl, b2⟩
    have S2 : Hid (Below X.heap.size X w2) := hide b2
    have tinf := tokSz t
    have tone := tokOne t
    clear b2 CN q0
    go_upto_region 2 with (refine wpList_store_newV rfl 38 (.tmp 12) (.tmp 22) rfl w2 _ _ (tokC t).toArray rfl rfl tinf rfl tone ?_; intro w3 q3 b3 z3)
    have S3 : Hid (Below X.heap.size X w3) := hide ((unhide S2).trans (b3.mono (unhide S2).size))
    have HGB : Hid (X.heap.size ≤ w2.heap.size) := hide (unhide S2).size
    obtain ⟨G, hG⟩ : ∃ G, w2.heap.size = G := ⟨_, rfl⟩
    rw [hG] at q3 HGB
    simp only [hG]
    clear b3 z3 S2 hG tinf tone
    have k0 := Below.at (unhide S3) (by have := unhide SX; omega) (unhide Q0)
    have Q3 := hide q3
    clear k0
    go_wp2_with (refine wpList_load_row rfl 38 (.tmp 12) rfl G rfl 38 _ (0, 0) _ q3 Tryd.underlying38 rfl (tokSz t) ?_)
    refine (unhide CO _).mono ?_
    rintro e w4 ⟨rfl, b4⟩
    have S4 : Hid (Below X.heap.size X w4) := hide ((unhide S3).trans (b4.mono (unhide S3).size))
    have q4 := Below.at b4 (Array.getElem?_eq_some_iff.1 (unhide Q3)).1 (unhide Q3)
    have k0 := Below.at (unhide S4) (by have := unhide SX; omega) (unhide Q0)
    clear b4 S3 q3 Q3 CO
    by_cases hlt : t.lk - t.ul < k
    · have HR := unhide HL
      rw [if_pos hlt] at HR
      subst HR
      have d1 : (((t.lk - t.ul : Nat) : Int)) < (k : Int) := by omega
      generalize t.lk - t.ul = ML at *
      generalize t.mi - t.bu = MM at *
      clear HL hlt CA CB q4
      go_wp2_with (refine wpList_load_row rfl 27 (.tmp 5) rfl w.heap.size rfl 27 _ (0, 0) _ k0 Tryd.underlying27 rfl (unhide PS _ _) ?_)
      refine (unhide CT _ (unhide S4)).mono ?_
      rintro e wz ⟨⟨v', rfl, po⟩, bz⟩
      obtain ⟨u1, u2, rfl, one⟩ := po.parts
      have SZ := (unhide S4).trans (bz.mono (unhide S4).size)
      have rz := Below.at SZ (by have := unhide SX; omega) (unhide QR)
      have F := hide (out_set (C := w.heap.size) po (by have := (unhide S4).size; have := (unhide B0).size; omega) (by omega) rz ((unhide B0).trans (SZ.mono (unhide B0).size)) #[u1, u2])
      clear po bz SZ k0
      go_wp2_with (refine wpList_store_row rfl 27 (.tmp 10) (.tmp 37) rfl (w.heap.size + 1) _ rfl rfl 27 _ rz (unhide PS _ _) rfl one ?_)
      exact bodyPost_ret (results_row_tmp rfl _ _ (w.heap.size + 1) _ _ _ _ rfl (setRow_heap _ _ _ _ _ _ rz) Tryd.underlying27 rfl (unhide PS _ _)) rfl ⟨⟨_, rfl, (unhide F).1⟩, (unhide F).2⟩
    · have HR := unhide HL
      rw [if_neg hlt] at HR
      have HL2 := hide HR
      have d1 : ¬ (((t.lk - t.ul : Nat) : Int)) < (k : Int) := by omega
      generalize t.lk - t.ul = ML at *
      generalize t.mi - t.bu = MM at *
      have c4 : w4.cell? ⟨G, 4, none⟩ = some (.int .u64 (t.ul : Int)) := cell_of_row _ _ _ _ _ _ q4
      have f4 : w4.frozen? ⟨G, 4, none⟩ = false := frozen_in_row q4
      clear HL HR hlt k0
      go_wp2_with fail
      refine (unhide CA _).mono ?_
      rintro e w5 ⟨rfl, rfl⟩
      by_cases hs4 : t.ul + k < 18446744073709551616
      · have e1 : pAdd t.ul k = (t.ul + k, 0) := by unfold pAdd; rw [if_neg (by omega)]
        have HR := unhide HL2
        rw [if_pos hs4] at HR
        rw [e1]
        obtain ⟨SM, hSM⟩ : ∃ x, t.ul + k = x := ⟨_, rfl⟩
        rw [hSM] at CB HR ⊢
        have r5 := heap_setCell_same w5 G 4 (tokC t).toArray _ (.int .u64 (SM : Int)) q4
        have e5 : (tokC t).toArray.setIfInBounds 4 (.int .u64 (SM : Int)) = (tokC { t with ul := SM }).toArray := rfl
        rw [e5] at r5
        have S5 : Hid (Below X.heap.size X (w5.setCell ⟨G, 4, none⟩ (.int .u64 (SM : Int)))) := hide ((unhide S4).setCell (p := ⟨G, 4, none⟩) (unhide HGB) _)
        have CB5 := hide (unhide CB _ (unhide S5))
        have k5 := Below.at (unhide S5) (by have := unhide SX; omega) (unhide Q0)
        have tinf := tokSz { t with ul := SM }
        generalize pGB ts hs { t with ul := SM } a k = RR at *
        subst HR
        generalize ({ t with ul := SM } : Tkn) = T2 at *
        clear HL2 hs4 e1 CA CT e5 CB q4 hSM
        go_upto_region 11 with fail
        obtain ⟨w6, hw6⟩ : ∃ W, w5.setCell ⟨G, 4, none⟩ (.int .u64 (SM : Int)) = W := ⟨_, rfl⟩
        rw [hw6] at r5 S5 CB5 k5
        rw [hw6]
        clear hw6 c4 f4 S4
        go_wp2_with (first
          | (refine wpList_load_row rfl 27 (.tmp 5) rfl w.heap.size rfl 27 _ (0, 0) _ k5 Tryd.underlying27 rfl (unhide PS _ _) ?_)
          | (refine wpList_load_row rfl 38 (.tmp 12) rfl G rfl 38 _ (0, 0) _ r5 Tryd.underlying38 rfl tinf ?_))
        refine (unhide CB5).mono ?_
        rintro e wz ⟨⟨v', rfl, po⟩, bz⟩
        obtain ⟨u1, u2, rfl, one⟩ := po.parts
        have SZ := (unhide S5).trans (bz.mono (unhide S5).size)
        have rz := Below.at SZ (by have := unhide SX; omega) (unhide QR)
        have F := hide (out_set (C := w.heap.size) po (by have := (unhide S5).size; have := (unhide B0).size; omega) (by omega) rz ((unhide B0).trans (SZ.mono (unhide B0).size)) #[u1, u2])
        clear po bz SZ k5 r5 CB5
        go_wp2_with (refine wpList_store_row rfl 27 (.tmp 10) (.tmp 56) rfl (w.heap.size + 1) _ rfl rfl 27 _ rz (unhide PS _ _) rfl one ?_)
        exact bodyPost_ret (results_row_tmp rfl _ _ (w.heap.size + 1) _ _ _ _ rfl (setRow_heap _ _ _ _ _ _ rz) Tryd.underlying27 rfl (unhide PS _ _)) rfl ⟨⟨_, rfl, (unhide F).1⟩, (unhide F).2⟩
      · have e1 : pAdd t.ul k = (0, 10) := by unfold pAdd; rw [if_pos (by omega)]
        have HR := unhide HL2
        rw [if_neg hs4] at HR
        subst HR
        rw [e1]
        have S5 : Hid (Below X.heap.size X (w5.setCell ⟨G, 4, none⟩ (.int .u64 ((0 : Nat) : Int)))) := hide ((unhide S4).setCell (p := ⟨G, 4, none⟩) (unhide HGB) _)
        clear HL2 hs4 e1 CA CB q4
        go_upto_region 9 with fail
        obtain ⟨w6, hw6⟩ : ∃ W, w5.setCell ⟨G, 4, none⟩ (.int .u64 ((0 : Nat) : Int)) = W := ⟨_, rfl⟩
        change Code.wp _ _ _ _ (w5.setCell ⟨G, 4, none⟩ (.int .u64 ((0 : Nat) : Int)))
        rw [hw6] at S5
        rw [hw6]
        clear hw6 c4 f4 S4
        have k0 := Below.at (unhide S5) (by have := unhide SX; omega) (unhide Q0)
        go_wp2_with (refine wpList_load_row rfl 27 (.tmp 5) rfl w.heap.size rfl 27 _ (0, 0) _ k0 Tryd.underlying27 rfl (unhide PS _ _) ?_)
        refine (unhide CT _ (unhide S5)).mono ?_
        rintro e wz ⟨⟨v', rfl, po⟩, bz⟩
        obtain ⟨u1, u2, rfl, one⟩ := po.parts
        have SZ := (unhide S5).trans (bz.mono (unhide S5).size)
        have rz := Below.at SZ (by have := unhide SX; omega) (unhide QR)
        have F := hide (out_set (C := w.heap.size) po (by have := (unhide S5).size; have := (unhide B0).size; omega) (by omega) rz ((unhide B0).trans (SZ.mono (unhide B0).size)) #[u1, u2])
        clear po bz SZ k0
        go_wp2_with (refine wpList_store_row rfl 27 (.tmp 10) (.tmp 49) rfl (w.heap.size + 1) _ rfl rfl 27 _ rz (unhide PS _ _) rfl one ?_)
        exact bodyPost_ret (results_row_tmp rfl _ _ (w.heap.size + 1) _ _ _ _ rfl (setRow_heap _ _ _ _ _ _ rz) Tryd.underlying27 rfl (unhide PS _ _)) rfl ⟨⟨_, rfl, (unhide F).1⟩, (unhide F).2⟩
end Go.Proofs.YtjfnaedcdmmigaaDoor

namespace Go.Proofs.YtjfnaedcdmmigaaDoor
open Go Go.RowKit
set_option linter.unusedSimpArgs false
set_option linter.unusedVariables false

set_option maxHeartbeats 4000000 in
set_option maxRecDepth 1000000 in
theorem mint_calls (ts : List Tkn) (hs : List Hol) (hn1 : ts.length ≤ 1000) (hn2 : hs.length ≤ 999) (htk : ∀ t ∈ ts, t.ok) (hok : ∀ h ∈ hs, h.ok) (v : Value) (o : Nat) (n a : List UInt8) (hnl : n.length ≤ 1000) (hal : a.length ≤ 1000) (k : Nat) (hk : k < 18446744073709551616) (w : World) (hU : UTabs w) (hP : PM w v ts hs) :
    Calls Tryd.prog 20 #[v, .int .u32 (o : Int), .string (str n), .string (str a), .int .u64 (k : Int)] w fun e w' => (∃ v', e = .returned (.tuple #[v', .int .i64 ((pMint ts hs o n a k).2.2 : Int)]) ∧ PO w' w.heap.size v' (pMint ts hs o n a k).1 (pMint ts hs o n a k).2.1) ∧ Below w.heap.size w w' := by
  obtain ⟨p1, c1, p2, c2, rfl, hT, hH⟩ := hP
  obtain ⟨q0, q1⟩ := al2 w (.cells #[.slice p1 ts.length c1, .slice p2 hs.length c2] 27) (.cells zPur 27)
  have b0 := bel2 w (.cells #[.slice p1 ts.length c1, .slice p2 hs.length c2] 27) (.cells zPur 27)
  have sX : ((w.alloc (.cells #[.slice p1 ts.length c1, .slice p2 hs.length c2] 27)).alloc (.cells zPur 27)).heap.size = w.heap.size + 1 + 1 := by simp
  obtain ⟨X, hX⟩ : ∃ X, (w.alloc (.cells #[.slice p1 ts.length c1, .slice p2 hs.length c2] 27)).alloc (.cells zPur 27) = X := ⟨_, rfl⟩
  have HX := hide hX
  rw [hX] at q0 q1 b0 sX
  have PX : PM X (.agg #[.slice p1 ts.length c1, .slice p2 hs.length c2]) ts hs := ⟨p1, c1, p2, c2, rfl, hT.below b0, hH.below b0⟩
  have CN := hide (known_calls ts hs hn1 (by omega) _ o n X PX)
  have CT := hide fun W (hW : Below X.heap.size X W) => twin_calls ts hs hn1 (by omega) _ W (PX.below hW)
  have QR := hide q1
  have Q0 := hide q0
  have B0 := hide b0
  have SX := hide sX
  have PS := hide fun v1 v2 => purSz v1 v2
  cases hK : pKn ts o n with
  | none =>
    have hR : pMint ts hs o n a k = (ts, hs, 40) := by unfold pMint; rw [hK]
    rw [hR]
    rw [hK, Option.getD_none, Option.isSome_none] at CN
    obtain ⟨TT, hTT⟩ : ∃ t, zTok = t := ⟨_, rfl⟩
    rw [hTT] at CN
    clear hT hH hX PX q1 b0 sX hn1 hn2 hok htk hnl hal hU hR hk hTT hK
    unfold zPur at HX
    go_enter Tryd.func20, Tryd.ntmps20
    go_upto_region 1 with fail
    change Code.wp _ _ _ _ ((w.alloc (.cells #[.slice p1 ts.length c1, .slice p2 hs.length c2] 27)).alloc (.cells #[.slice none 0 0, .slice none 0 0] 27))
    rw [unhide HX]
    go_wp2_with (refine wpList_load_row rfl 27 (.tmp 5) rfl w.heap.size rfl 27 _ (0, 0) _ q0 Tryd.underlying27 rfl (unhide PS _ _) ?_)
    refine (unhide CN).mono ?_
    rintro e w2 ⟨rfl, b2⟩
    have S2 : Hid (Below X.heap.size X w2) := hide b2
    have tinf := tokSz TT
    have tone := tokOne TT
    clear b2 CN q0
    go_upto_region 2 with (refine wpList_store_newV rfl 38 (.tmp 12) (.tmp 24) rfl w2 _ _ (tokC TT).toArray rfl rfl tinf rfl tone ?_; intro w3 q3 b3 z3)
    have S3 : Hid (Below X.heap.size X w3) := hide ((unhide S2).trans (b3.mono (unhide S2).size))
    have HGB : Hid (X.heap.size ≤ w2.heap.size) := hide (unhide S2).size
    obtain ⟨G, hG⟩ : ∃ G, w2.heap.size = G := ⟨_, rfl⟩
    rw [hG] at q3 HGB
    simp only [hG]
    clear b3 z3 S2 hG tinf tone
    have k0 := Below.at (unhide S3) (by have := unhide SX; omega) (unhide Q0)
    clear q3 HGB
    go_wp2_with (refine wpList_load_row rfl 27 (.tmp 5) rfl w.heap.size rfl 27 _ (0, 0) _ k0 Tryd.underlying27 rfl (unhide PS _ _) ?_)
    refine (unhide CT _ (unhide S3)).mono ?_
    rintro e wz ⟨⟨v', rfl, po⟩, bz⟩
    obtain ⟨u1, u2, rfl, one⟩ := po.parts
    have SZ := (unhide S3).trans (bz.mono (unhide S3).size)
    have rz := Below.at SZ (by have := unhide SX; omega) (unhide QR)
    have F := hide (out_set (C := w.heap.size) po (by have := (unhide S3).size; have := (unhide B0).size; omega) (by omega) rz ((unhide B0).trans (SZ.mono (unhide B0).size)) #[u1, u2])
    clear po bz SZ k0
    go_wp2_with (refine wpList_store_row rfl 27 (.tmp 10) (.tmp 29) rfl (w.heap.size + 1) _ rfl rfl 27 _ rz (unhide PS _ _) rfl one ?_)
    exact bodyPost_ret (results_row_tmp rfl _ _ (w.heap.size + 1) _ _ _ _ rfl (setRow_heap _ _ _ _ _ _ rz) Tryd.underlying27 rfl (unhide PS _ _)) rfl ⟨⟨_, rfl, (unhide F).1⟩, (unhide F).2⟩
  | some t =>
    have hkey := kn_key hK
    have hto := htk t hkey.2.2
    rw [hK, Option.getD_some, Option.isSome_some] at CN
    have hR : pMint ts hs o n a k = if t.mi + k < 18446744073709551616 then (if (t.mi - t.bu) + k ≤ t.cap then pGB ts hs { t with mi := t.mi + k } a k else (ts, hs, 12)) else (ts, hs, 10) := by unfold pMint; rw [hK]
    have HL := hide hR
    obtain ⟨R, hRR⟩ : ∃ R, pMint ts hs o n a k = R := ⟨_, rfl⟩
    rw [hRR] at HL
    rw [hRR]
    have CO := hide fun W => out_calls t hto W
    have CA := hide fun W => amtAdd_calls t.mi k hto.u.2.2.1 hk W
    have CA2 := hide fun W => amtAdd_calls (t.mi - t.bu) k (by have := hto.u.2.2.1; omega) hk W
    have HCAP := hide hto.2.2.1
    have CB := hide fun W (hW : Below X.heap.size X W) => gb_calls ts hs hn1 hn2 hok _ { t with mi := t.mi + k } a (by rw [show ({ t with mi := t.mi + k } : Tkn).n = t.n from rfl, hkey.2.1]; exact hnl) hal (by show (pKn ts t.o t.n).isSome = true; rw [hkey.1, hkey.2.1, hK]; rfl) k hk W ((hU.below' b0).below' hW) (PX.below hW)
    clear hT hH hX PX q1 b0 sX hn1 hn2 hok htk hnl hal hU hR hk hRR hkey hto hK
    unfold zPur at HX
    go_enter Tryd.func20, Tryd.ntmps20
    go_upto_region 1 with fail
    change Code.wp _ _ _ _ ((w.alloc (.cells #[.slice p1 ts.length c1, .slice p2 hs.length c2] 27)).alloc (.cells #[.slice none 0 0, .slice none 0 0] 27))
    rw [unhide HX]
    go_wp2_with (refine wpList_load_row rfl 27 (.tmp 5) rfl w.heap.size rfl 27 _ (0, 0) _ q0 Tryd.underlying27 rfl (unhide PS _ _) ?_)
    refine (unhide CN).mono ?_
    rintro e w2 ⟨rfl, b2⟩
    have S2 : Hid (Below X.heap.size X w2) := hide b2
    have tinf := tokSz t
    have tone := tokOne t
    clear b2 CN q0
    go_upto_region 2 with (refine wpList_store_newV rfl 38 (.tmp 12) (.tmp 24) rfl w2 _ _ (tokC t).toArray rfl rfl tinf rfl tone ?_; intro w3 q3 b3 z3)
    have S3 : Hid (Below X.heap.size X w3) := hide ((unhide S2).trans (b3.mono (unhide S2).size))
    have HGB : Hid (X.heap.size ≤ w2.heap.size) := hide (unhide S2).size
    obtain ⟨G, hG⟩ : ∃ G, w2.heap.size = G := ⟨_, rfl⟩
    rw [hG] at q3 HGB
    simp only [hG]
    clear b3 z3 S2 hG tinf tone
    have k0 := Below.at (unhide S3) (by have := unhide SX; omega) (unhide Q0)
    have Q3 := hide q3
    clear k0
    go_wp2_with (refine wpList_load_row rfl 38 (.tmp 12) rfl G rfl 38 _ (0, 0) _ q3 Tryd.underlying38 rfl (tokSz t) ?_)
    refine (unhide CO _).mono ?_
    rintro e w5 ⟨rfl, b4⟩
    have S4 : Hid (Below X.heap.size X w5) := hide ((unhide S3).trans (b4.mono (unhide S3).size))
    have q4 := Below.at b4 (Array.getElem?_eq_some_iff.1 (unhide Q3)).1 (unhide Q3)
    generalize t.lk - t.ul = ML at *
    obtain ⟨MM, hMM⟩ : ∃ m, t.mi - t.bu = m := ⟨_, rfl⟩
    rw [hMM] at HL CA2
    rw [hMM]
    have c4 : w5.cell? ⟨G, 5, none⟩ = some (.int .u64 (t.mi : Int)) := cell_of_row _ _ _ _ _ _ q4
    have f4 : w5.frozen? ⟨G, 5, none⟩ = false := frozen_in_row q4
    clear b4 S3 q3 Q3 CO hMM
    go_wp2_with fail
    refine (unhide CA _).mono ?_
    rintro e w4 ⟨rfl, rfl⟩
    by_cases hs4 : t.mi + k < 18446744073709551616
    · have e1 : pAdd t.mi k = (t.mi + k, 0) := by unfold pAdd; rw [if_neg (by omega)]
      have HR := unhide HL
      rw [if_pos hs4] at HR
      rw [e1]
      obtain ⟨SM, hSM⟩ : ∃ x, t.mi + k = x := ⟨_, rfl⟩
      rw [hSM] at CB HR ⊢
      have HL2 := hide HR
      have r5 := heap_setCell_same w4 G 5 (tokC t).toArray _ (.int .u64 (SM : Int)) q4
      have e5 : (tokC t).toArray.setIfInBounds 5 (.int .u64 (SM : Int)) = (tokC { t with mi := SM }).toArray := rfl
      rw [e5] at r5
      have S5 : Hid (Below X.heap.size X (w4.setCell ⟨G, 5, none⟩ (.int .u64 (SM : Int)))) := hide ((unhide S4).setCell (p := ⟨G, 5, none⟩) (unhide HGB) _)
      clear HL HR hs4 e1 CA e5 hSM q4
      go_upto_region 9 with fail
      obtain ⟨w6, hw6⟩ : ∃ W, w4.setCell ⟨G, 5, none⟩ (.int .u64 (SM : Int)) = W := ⟨_, rfl⟩
      rw [hw6] at r5 S5
      rw [hw6]
      clear hw6 c4 f4 S4
      go_wp2_with fail
      refine (unhide CA2 _).mono ?_
      rintro e w7 ⟨rfl, rfl⟩
      have c6 : w7.cell? ⟨G, 2, none⟩ = some (.int .u64 (t.cap : Int)) := cell_of_row _ _ _ _ _ _ r5
      have k5 := Below.at (unhide S5) (by have := unhide SX; omega) (unhide Q0)
      by_cases hc : MM + k ≤ t.cap
      · have e2 : pAdd MM k = (MM + k, 0) := by unfold pAdd; rw [if_neg (by have := unhide HCAP; omega)]
        have HR := unhide HL2
        rw [if_pos hc] at HR
        rw [e2]
        have dc : ¬ (t.cap : Int) < (MM : Int) + (k : Int) := by omega
        have CB5 := hide (unhide CB _ (unhide S5))
        have tinf := tokSz { t with mi := SM }
        generalize pGB ts hs { t with mi := SM } a k = RR at *
        subst HR
        generalize ({ t with mi := SM } : Tkn) = T2 at *
        clear HL2 hc e2 CA2 CT CB
        go_wp2_with (first
          | (refine wpList_load_row rfl 27 (.tmp 5) rfl w.heap.size rfl 27 _ (0, 0) _ k5 Tryd.underlying27 rfl (unhide PS _ _) ?_)
          | (refine wpList_load_row rfl 38 (.tmp 12) rfl G rfl 38 _ (0, 0) _ r5 Tryd.underlying38 rfl tinf ?_))
        refine (unhide CB5).mono ?_
        rintro e wz ⟨⟨v', rfl, po⟩, bz⟩
        obtain ⟨u1, u2, rfl, one⟩ := po.parts
        have SZ := (unhide S5).trans (bz.mono (unhide S5).size)
        have rz := Below.at SZ (by have := unhide SX; omega) (unhide QR)
        have F := hide (out_set (C := w.heap.size) po (by have := (unhide S5).size; have := (unhide B0).size; omega) (by omega) rz ((unhide B0).trans (SZ.mono (unhide B0).size)) #[u1, u2])
        clear po bz SZ k5 r5 CB5 c6
        go_wp2_with (refine wpList_store_row rfl 27 (.tmp 10) (.tmp 69) rfl (w.heap.size + 1) _ rfl rfl 27 _ rz (unhide PS _ _) rfl one ?_)
        exact bodyPost_ret (results_row_tmp rfl _ _ (w.heap.size + 1) _ _ _ _ rfl (setRow_heap _ _ _ _ _ _ rz) Tryd.underlying27 rfl (unhide PS _ _)) rfl ⟨⟨_, rfl, (unhide F).1⟩, (unhide F).2⟩
      · have HR := unhide HL2
        rw [if_neg hc] at HR
        subst HR
        clear HL2 CB r5
        by_cases ho : MM + k < 18446744073709551616
        · have e2 : pAdd MM k = (MM + k, 0) := by unfold pAdd; rw [if_neg (by omega)]
          rw [e2]
          have dc : (t.cap : Int) < (MM : Int) + (k : Int) := by omega
          clear e2 CA2 ho hc
          go_wp2_with (refine wpList_load_row rfl 27 (.tmp 5) rfl w.heap.size rfl 27 _ (0, 0) _ k5 Tryd.underlying27 rfl (unhide PS _ _) ?_)
          refine (unhide CT _ (unhide S5)).mono ?_
          rintro e wz ⟨⟨v', rfl, po⟩, bz⟩
          obtain ⟨u1, u2, rfl, one⟩ := po.parts
          have SZ := (unhide S5).trans (bz.mono (unhide S5).size)
          have rz := Below.at SZ (by have := unhide SX; omega) (unhide QR)
          have F := hide (out_set (C := w.heap.size) po (by have := (unhide S5).size; have := (unhide B0).size; omega) (by omega) rz ((unhide B0).trans (SZ.mono (unhide B0).size)) #[u1, u2])
          clear po bz SZ k5 c6
          go_wp2_with (refine wpList_store_row rfl 27 (.tmp 10) (.tmp 63) rfl (w.heap.size + 1) _ rfl rfl 27 _ rz (unhide PS _ _) rfl one ?_)
          exact bodyPost_ret (results_row_tmp rfl _ _ (w.heap.size + 1) _ _ _ _ rfl (setRow_heap _ _ _ _ _ _ rz) Tryd.underlying27 rfl (unhide PS _ _)) rfl ⟨⟨_, rfl, (unhide F).1⟩, (unhide F).2⟩
        · have e2 : pAdd MM k = (0, 10) := by unfold pAdd; rw [if_pos (by omega)]
          rw [e2]
          clear e2 CA2 ho hc
          go_wp2_with (refine wpList_load_row rfl 27 (.tmp 5) rfl w.heap.size rfl 27 _ (0, 0) _ k5 Tryd.underlying27 rfl (unhide PS _ _) ?_)
          refine (unhide CT _ (unhide S5)).mono ?_
          rintro e wz ⟨⟨v', rfl, po⟩, bz⟩
          obtain ⟨u1, u2, rfl, one⟩ := po.parts
          have SZ := (unhide S5).trans (bz.mono (unhide S5).size)
          have rz := Below.at SZ (by have := unhide SX; omega) (unhide QR)
          have F := hide (out_set (C := w.heap.size) po (by have := (unhide S5).size; have := (unhide B0).size; omega) (by omega) rz ((unhide B0).trans (SZ.mono (unhide B0).size)) #[u1, u2])
          clear po bz SZ k5 c6
          go_wp2_with (refine wpList_store_row rfl 27 (.tmp 10) (.tmp 63) rfl (w.heap.size + 1) _ rfl rfl 27 _ rz (unhide PS _ _) rfl one ?_)
          exact bodyPost_ret (results_row_tmp rfl _ _ (w.heap.size + 1) _ _ _ _ rfl (setRow_heap _ _ _ _ _ _ rz) Tryd.underlying27 rfl (unhide PS _ _)) rfl ⟨⟨_, rfl, (unhide F).1⟩, (unhide F).2⟩
    · have e1 : pAdd t.mi k = (0, 10) := by unfold pAdd; rw [if_pos (by omega)]
      have HR := unhide HL
      rw [if_neg hs4] at HR
      subst HR
      rw [e1]
      have S5 : Hid (Below X.heap.size X (w4.setCell ⟨G, 5, none⟩ (.int .u64 ((0 : Nat) : Int)))) := hide ((unhide S4).setCell (p := ⟨G, 5, none⟩) (unhide HGB) _)
      clear HL hs4 e1 CA CB CA2 q4
      go_upto_region 7 with fail
      obtain ⟨w6, hw6⟩ : ∃ W, w4.setCell ⟨G, 5, none⟩ (.int .u64 ((0 : Nat) : Int)) = W := ⟨_, rfl⟩
      change Code.wp _ _ _ _ (w4.setCell ⟨G, 5, none⟩ (.int .u64 ((0 : Nat) : Int)))
      rw [hw6] at S5
      rw [hw6]
      clear hw6 c4 f4 S4
      have k0 := Below.at (unhide S5) (by have := unhide SX; omega) (unhide Q0)
      go_wp2_with (refine wpList_load_row rfl 27 (.tmp 5) rfl w.heap.size rfl 27 _ (0, 0) _ k0 Tryd.underlying27 rfl (unhide PS _ _) ?_)
      refine (unhide CT _ (unhide S5)).mono ?_
      rintro e wz ⟨⟨v', rfl, po⟩, bz⟩
      obtain ⟨u1, u2, rfl, one⟩ := po.parts
      have SZ := (unhide S5).trans (bz.mono (unhide S5).size)
      have rz := Below.at SZ (by have := unhide SX; omega) (unhide QR)
      have F := hide (out_set (C := w.heap.size) po (by have := (unhide S5).size; have := (unhide B0).size; omega) (by omega) rz ((unhide B0).trans (SZ.mono (unhide B0).size)) #[u1, u2])
      clear po bz SZ k0
      go_wp2_with (refine wpList_store_row rfl 27 (.tmp 10) (.tmp 46) rfl (w.heap.size + 1) _ rfl rfl 27 _ rz (unhide PS _ _) rfl one ?_)
      exact bodyPost_ret (results_row_tmp rfl _ _ (w.heap.size + 1) _ _ _ _ rfl (setRow_heap _ _ _ _ _ _ rz) Tryd.underlying27 rfl (unhide PS _ _)) rfl ⟨⟨_, rfl, (unhide F).1⟩, (unhide F).2⟩
end Go.Proofs.YtjfnaedcdmmigaaDoor

namespace Go.Proofs.YtjfnaedcdmmigaaDoor
open Go Go.RowKit
set_option linter.unusedSimpArgs false
set_option linter.unusedVariables false

theorem owns_low {w w' : World} {B s n G : Nat} {t : TypeId} {v : Value} {xs : List Value} (h : w.ownsRow B t s v n xs) (hG : G < B) (hk : ∀ k, k ≠ G → w'.heap[k]? = w.heap[k]?) : w'.ownsRow B t s v n xs := by
  obtain ⟨h1, h2⟩ := h
  refine ⟨h1, ?_⟩
  rcases h2 with h2 | ⟨g, cap, cur, rfl, hB, hg, hc, hm, hs, ht⟩
  · exact .inl h2
  · exact .inr ⟨g, cap, cur, rfl, hB, (hk g (by omega)).trans hg, hc, hm, hs, ht⟩
theorem pLess_len (hs : List Hol) (o : Nat) (n a : List UInt8) (k : Nat) : (pLess hs o n a k).1.length ≤ hs.length + 1 := by
  unfold pLess
  split
  · simp
  · exact pWith_len hs o n a _
/-- What a Lock leaves. -/
def pLock (ts : List Tkn) (hs : List Hol) (o : Nat) (n a : List UInt8) (k : Nat) : List Tkn × List Hol × Nat :=
  match pKn ts o n with
  | none => (ts, hs, 40)
  | some t => if (pLess hs o n a k).2 = 0 then (if t.lk + k < 18446744073709551616 then (pSetT ts { t with lk := t.lk + k }, (pLess hs o n a k).1, 0) else (ts, hs, 10)) else (ts, (pLess hs o n a k).1, (pLess hs o n a k).2)
set_option maxHeartbeats 4000000 in
set_option maxRecDepth 1000000 in
theorem lock_calls (ts : List Tkn) (hs : List Hol) (hn1 : ts.length ≤ 1000) (hn2 : hs.length ≤ 999) (htk : ∀ t ∈ ts, t.ok) (hok : ∀ h ∈ hs, h.ok) (v : Value) (o : Nat) (n a : List UInt8) (hnl : n.length ≤ 1000) (hal : a.length ≤ 1000) (k : Nat) (hk : k < 18446744073709551616) (w : World) (hU : UTabs w) (hP : PM w v ts hs) :
    Calls Tryd.prog 18 #[v, .int .u32 (o : Int), .string (str n), .string (str a), .int .u64 (k : Int)] w fun e w' => (∃ v', e = .returned (.tuple #[v', .int .i64 ((pLock ts hs o n a k).2.2 : Int)]) ∧ PO w' w.heap.size v' (pLock ts hs o n a k).1 (pLock ts hs o n a k).2.1) ∧ Below w.heap.size w w' := by
  obtain ⟨p1, c1, p2, c2, rfl, hT, hH⟩ := hP
  obtain ⟨q0, q1⟩ := al2 w (.cells #[.slice p1 ts.length c1, .slice p2 hs.length c2] 27) (.cells zPur 27)
  have b0 := bel2 w (.cells #[.slice p1 ts.length c1, .slice p2 hs.length c2] 27) (.cells zPur 27)
  have sX : ((w.alloc (.cells #[.slice p1 ts.length c1, .slice p2 hs.length c2] 27)).alloc (.cells zPur 27)).heap.size = w.heap.size + 1 + 1 := by simp
  obtain ⟨X, hX⟩ : ∃ X, (w.alloc (.cells #[.slice p1 ts.length c1, .slice p2 hs.length c2] 27)).alloc (.cells zPur 27) = X := ⟨_, rfl⟩
  have HX := hide hX
  rw [hX] at q0 q1 b0 sX
  have PX : PM X (.agg #[.slice p1 ts.length c1, .slice p2 hs.length c2]) ts hs := ⟨p1, c1, p2, c2, rfl, hT.below b0, hH.below b0⟩
  have CN := hide (known_calls ts hs hn1 (by omega) _ o n X PX)
  have CT := hide fun W (hW : Below X.heap.size X W) => twin_calls ts hs hn1 (by omega) _ W (PX.below hW)
  have QR := hide q1
  have Q0 := hide q0
  have B0 := hide b0
  have SX := hide sX
  have PS := hide fun v1 v2 => purSz v1 v2
  cases hK : pKn ts o n with
  | none =>
    have hR : pLock ts hs o n a k = (ts, hs, 40) := by unfold pLock; rw [hK]
    rw [hR]
    rw [hK, Option.getD_none, Option.isSome_none] at CN
    obtain ⟨TT, hTT⟩ : ∃ t, zTok = t := ⟨_, rfl⟩
    rw [hTT] at CN
    clear hT hH hX PX q1 b0 sX hn1 hn2 hok htk hnl hal hU hR hk hTT hK
    unfold zPur at HX
    go_enter Tryd.func18, Tryd.ntmps18
    go_upto_region 1 with fail
    change Code.wp _ _ _ _ ((w.alloc (.cells #[.slice p1 ts.length c1, .slice p2 hs.length c2] 27)).alloc (.cells #[.slice none 0 0, .slice none 0 0] 27))
    rw [unhide HX]
    go_wp2_with (refine wpList_load_row rfl 27 (.tmp 5) rfl w.heap.size rfl 27 _ (0, 0) _ q0 Tryd.underlying27 rfl (unhide PS _ _) ?_)
    refine (unhide CN).mono ?_
    rintro e w2 ⟨rfl, b2⟩
    have S2 : Hid (Below X.heap.size X w2) := hide b2
    have tinf := tokSz TT
    have tone := tokOne TT
    clear b2 CN q0
    go_upto_region 2 with (refine wpList_store_newV rfl 38 (.tmp 12) (.tmp 21) rfl w2 _ _ (tokC TT).toArray rfl rfl tinf rfl tone ?_; intro w3 q3 b3 z3)
    have S3 : Hid (Below X.heap.size X w3) := hide ((unhide S2).trans (b3.mono (unhide S2).size))
    have HGB : Hid (X.heap.size ≤ w2.heap.size) := hide (unhide S2).size
    obtain ⟨G, hG⟩ : ∃ G, w2.heap.size = G := ⟨_, rfl⟩
    rw [hG] at q3 HGB
    simp only [hG]
    clear b3 z3 S2 hG tinf tone
    have k0 := Below.at (unhide S3) (by have := unhide SX; omega) (unhide Q0)
    clear q3 HGB
    go_wp2_with (refine wpList_load_row rfl 27 (.tmp 5) rfl w.heap.size rfl 27 _ (0, 0) _ k0 Tryd.underlying27 rfl (unhide PS _ _) ?_)
    refine (unhide CT _ (unhide S3)).mono ?_
    rintro e wz ⟨⟨v', rfl, po⟩, bz⟩
    obtain ⟨u1, u2, rfl, one⟩ := po.parts
    have SZ := (unhide S3).trans (bz.mono (unhide S3).size)
    have rz := Below.at SZ (by have := unhide SX; omega) (unhide QR)
    have F := hide (out_set (C := w.heap.size) po (by have := (unhide S3).size; have := (unhide B0).size; omega) (by omega) rz ((unhide B0).trans (SZ.mono (unhide B0).size)) #[u1, u2])
    clear po bz SZ k0
    go_wp2_with (refine wpList_store_row rfl 27 (.tmp 10) (.tmp 26) rfl (w.heap.size + 1) _ rfl rfl 27 _ rz (unhide PS _ _) rfl one ?_)
    exact bodyPost_ret (results_row_tmp rfl _ _ (w.heap.size + 1) _ _ _ _ rfl (setRow_heap _ _ _ _ _ _ rz) Tryd.underlying27 rfl (unhide PS _ _)) rfl ⟨⟨_, rfl, (unhide F).1⟩, (unhide F).2⟩
  | some t =>
    have hkey := kn_key hK
    have hto := htk t hkey.2.2
    rw [hK, Option.getD_some, Option.isSome_some] at CN
    have hR : pLock ts hs o n a k = if (pLess hs o n a k).2 = 0 then (if t.lk + k < 18446744073709551616 then (pSetT ts { t with lk := t.lk + k }, (pLess hs o n a k).1, 0) else (ts, hs, 10)) else (ts, (pLess hs o n a k).1, (pLess hs o n a k).2) := by unfold pLock; rw [hK]
    have HL := hide hR
    obtain ⟨R, hRR⟩ : ∃ R, pLock ts hs o n a k = R := ⟨_, rfl⟩
    rw [hRR] at HL
    rw [hRR]
    have CK := hide fun W => keyOf_calls t W
    rw [hkey.1, hkey.2.1] at CK
    have CA := hide fun W => amtAdd_calls t.lk k (by have := hto.u; omega) hk W
    have CL0 := hide fun W (hW : Below X.heap.size X W) => less_calls ts hs hn1 (by omega) hok _ o n a hnl hal k hk W ((hU.below' b0).below' hW) (PX.below hW)
    have hll := pLess_len hs o n a k
    have hfi := kn_idx (ts := ts) (o := o) (n := n) (by rw [hK]; rfl)
    have CW := hide fun (m : Nat) v' W (hP : PM W v' ts (pLess hs o n a k).1) => withToken_calls ts (pLess hs o n a k).1 hn1 (by omega) v' { t with lk := m } (by show ts.findIdx (isT t.o t.n) < ts.length; rw [hkey.1, hkey.2.1]; exact hfi) W hP
    have hkv : hkv o n a = #[.int .u32 (o : Int), .string (str n), .string (str a)] := rfl
    have htv : tkv o n = #[.int .u32 (o : Int), .string (str n)] := rfl
    rw [htv] at CK
    rw [hkv] at CL0
    obtain ⟨LH, hLH⟩ : ∃ x, (pLess hs o n a k).1 = x := ⟨_, rfl⟩
    obtain ⟨LE, hLE⟩ : ∃ x, (pLess hs o n a k).2 = x := ⟨_, rfl⟩
    rw [hLH, hLE] at HL CL0
    rw [hLH] at CW
    clear hT hH hX PX q1 b0 sX hn1 hn2 hok htk hnl hal hU hR hk hRR hkey hto hK hll hfi hkv htv hLH hLE
    unfold zPur at HX
    go_enter Tryd.func18, Tryd.ntmps18
    go_upto_region 1 with fail
    change Code.wp _ _ _ _ ((w.alloc (.cells #[.slice p1 ts.length c1, .slice p2 hs.length c2] 27)).alloc (.cells #[.slice none 0 0, .slice none 0 0] 27))
    rw [unhide HX]
    go_wp2_with (refine wpList_load_row rfl 27 (.tmp 5) rfl w.heap.size rfl 27 _ (0, 0) _ q0 Tryd.underlying27 rfl (unhide PS _ _) ?_)
    refine (unhide CN).mono ?_
    rintro e w2 ⟨rfl, b2⟩
    have S2 : Hid (Below X.heap.size X w2) := hide b2
    have tinf := tokSz t
    have tone := tokOne t
    clear b2 CN q0
    go_upto_region 2 with (refine wpList_store_newV rfl 38 (.tmp 12) (.tmp 21) rfl w2 _ _ (tokC t).toArray rfl rfl tinf rfl tone ?_; intro w3 q3 b3 z3)
    have S3 : Hid (Below X.heap.size X w3) := hide ((unhide S2).trans (b3.mono (unhide S2).size))
    have HGB : Hid (X.heap.size ≤ w2.heap.size) := hide (unhide S2).size
    obtain ⟨G, hG⟩ : ∃ G, w2.heap.size = G := ⟨_, rfl⟩
    rw [hG] at q3 HGB
    simp only [hG]
    clear b3 z3 S2 hG tinf tone
    have k0 := Below.at (unhide S3) (by have := unhide SX; omega) (unhide Q0)
    have CL := hide fun W (hW : Below w3.heap.size w3 W) => unhide CL0 W ((unhide S3).trans (hW.mono (unhide S3).size))
    have LP : Hid (∀ W, Below w3.heap.size w3 W → W.heap[w.heap.size]? = some (.cells #[.slice p1 ts.length c1, .slice p2 hs.length c2] 27 (0, 0))) := hide fun W hW => Below.at hW (Array.getElem?_eq_some_iff.1 k0).1 k0
    have LT : Hid (∀ W, Below w3.heap.size w3 W → W.heap[G]? = some (.cells (tokC t).toArray 38 (0, 0))) := hide fun W hW => Below.at hW (Array.getElem?_eq_some_iff.1 q3).1 q3
    have HGW : Hid (G < w3.heap.size) := hide (Array.getElem?_eq_some_iff.1 q3).1
    clear CL0 k0 q3
    go_upto_region 4 with fail
    go_cut [14, 15] (fun x y wc => ∃ (H : Nat) (u1 u2 : Value), x = .pointer (some ⟨H, 0, none⟩) ∧ y = .int .i64 (LE : Int) ∧ Below w3.heap.size w3 wc ∧ wc.heap[H]? = some (.cells #[u1, u2] 27 (0, 0)) ∧ PO wc w3.heap.size (.agg #[u1, u2]) ts LH ∧ w3.heap.size ≤ H ∧ (#[u1, u2] : Array Value).all (·.oneCell') = true)
    case first =>
      have hS0 : Below w3.heap.size w3 ({ w3 with drawn := w3.drawn + 1 } : World) := ⟨rfl, rfl, rfl, Nat.le_refl _, fun _ _ => rfl⟩
      refine wp_region_held (S := fun W => Below w3.heap.size w3 W) mixed ?_
      obtain ⟨d0, hd0⟩ : ∃ d, { w3 with drawn := w3.drawn + 1 } = d := ⟨_, rfl⟩
      rw [hd0] at hS0
      rw [hd0]
      clear hd0
      refine wpAnyH_take (i := 0) rfl (by kernel_rfl) (by kernel_rfl) (by kernel_rfl) (fun _ _ _ h => h) (yields_row (by kernel_rfl) 27 (.tmp 5) rfl w.heap.size (by kernel_rfl) 27 _ (0, 0) _ (fun W hW => unhide LP W hW) Tryd.underlying27 rfl (unhide PS _ _)) hS0 ?_
      refine wpAnyH_take (i := 1) rfl (by kernel_rfl) (by kernel_rfl) (by kernel_rfl) (fun _ _ _ h => h) (yields_row (by kernel_rfl) 38 (.tmp 12) rfl G (by kernel_rfl) 38 _ (0, 0) _ (fun W hW => unhide LT W hW) Tryd.underlying38 rfl (tokSz t)) hS0 ?_
      refine wpAnyH_take (i := 3) (v := .string (str a)) rfl (by kernel_rfl) (by kernel_rfl) (by kernel_rfl) (fun _ _ _ h => h) (.inl ⟨by kernel_rfl, fun W _ => by kernel_rfl⟩) hS0 ?_
      refine wpAnyH_take (i := 5) (v := .int .u64 (k : Int)) rfl (by kernel_rfl) (by kernel_rfl) (by kernel_rfl) (fun _ _ _ h => h) (.inl ⟨by kernel_rfl, fun W _ => by kernel_rfl⟩) hS0 ?_
      have Sd0 := hide hS0
      clear hS0
      refine wpAnyH_two 2 10 _ _ (by kernel_rfl) rfl rfl ?_ ?_
      · go_wp2_with fail
        refine (unhide CK _).mono ?_
        rintro e y1 ⟨rfl, bz⟩
        have Sy1 : Hid (Below w3.heap.size w3 y1) := hide ((unhide Sd0).trans (bz.mono (unhide Sd0).size))
        clear bz
        go_wp2
        refine ⟨unhide Sy1, ?_⟩
        refine wpAnyH_take (i := 4) (v := .agg #[.int .u32 (o : Int), .string (str n), .string (str a)]) rfl (by kernel_rfl) (by kernel_rfl) (by kernel_rfl) (fun _ _ _ h => h) (yields_build (by kernel_rfl) 81 #[(0, .tmp 30), (1, .tmp 31)] rfl #[.int .u32 (o : Int), .string (str n), .string (str a)] (by kernel_rfl)) (unhide Sy1) ?_
        refine wpAnyH_two 6 10 _ _ (by kernel_rfl) rfl rfl ?_ ?_
        · go_wp2_with fail
          refine (unhide CL _ (unhide Sy1)).mono ?_
          rintro e y2 ⟨⟨v', rfl, po⟩, bz⟩
          obtain ⟨u1, u2, rfl, one⟩ := po.parts
          have Sy2 : Hid (Below w3.heap.size w3 y2) := hide ((unhide Sy1).trans (bz.mono (unhide Sy1).size))
          have Py2 := hide (po.base (unhide Sy1).size)
          clear bz po
          go_wp2
          refine ⟨unhide Sy2, ?_⟩
          refine wpAnyH_take (i := 7) (v := .tuple #[.agg #[u1, u2], .int .i64 (LE : Int)]) rfl (by kernel_rfl) (by kernel_rfl) (by kernel_rfl) (fun _ _ _ h => h) (.inl ⟨by kernel_rfl, fun W _ => by kernel_rfl⟩) (unhide Sy2) ?_
          refine wpAnyH_take (i := 8) (v := .agg #[u1, u2]) rfl (by kernel_rfl) (by kernel_rfl) (by kernel_rfl) (fun _ _ _ h => h) (.inl ⟨by kernel_rfl, fun W _ => by kernel_rfl⟩) (unhide Sy2) ?_
          refine wpAnyH_take (i := 9) (v := .int .i64 (LE : Int)) rfl (by kernel_rfl) (by kernel_rfl) (by kernel_rfl) (fun _ _ _ h => h) (.inl ⟨by kernel_rfl, fun W _ => by kernel_rfl⟩) (unhide Sy2) ?_
          refine wpAnyH_one 10 _ (by kernel_rfl) rfl ?_
          go_wp2
          have SA : Hid (Below w3.heap.size w3 (y2.alloc (.cells zPur 27))) := hide ((unhide Sy2).alloc (unhide Sy2).size _)
          have RA := hide (al1 y2 (.cells zPur 27))
          have hHz : Hid (w3.heap.size ≤ y2.heap.size) := hide (unhide Sy2).size
          have bA : Below y2.heap.size y2 (y2.alloc (.cells zPur 27)) := (Below.refl _ _).alloc (Nat.le_refl _) _
          refine ⟨unhide SA, ?_⟩
          change wpAnyH _ _ _ _ _ _ _ _ (y2.alloc (.cells zPur 27))
          obtain ⟨y3, hY⟩ : ∃ Y, y2.alloc (.cells zPur 27) = Y := ⟨_, rfl⟩
          rw [hY] at SA RA bA
          rw [hY]
          have Sy3 := SA
          have Ry3 := RA
          have Py3 := hide ((unhide Py2).below bA)
          obtain ⟨H, hH⟩ : ∃ H, y2.heap.size = H := ⟨_, rfl⟩
          rw [hH] at Ry3 hHz
          rw [hH]
          clear hY SA RA bA hH
          refine wpAnyH_one 11 _ (by kernel_rfl) rfl ?_
          have r1 := setRow_heap _ _ _ #[u1, u2] _ _ (unhide Ry3)
          have p1 := (unhide Py3).other (w' := y3.setRow H #[u1, u2]) (fun k hk => setRow_other _ _ _ _ hk) _ _ (by decide) (by decide) (unhide Ry3)
          have s1 : Hid (Below w3.heap.size w3 (y3.setRow H #[u1, u2])) := hide ((unhide Sy3).trans (below_setRow (Below.refl _ _) (unhide hHz) _))
          refine wpList_store_row rfl 27 (.tmp 14) (.tmp 35) rfl H #[u1, u2] rfl rfl 27 _ (unhide Ry3) (unhide PS _ _) rfl one ?_
          go_wp2
          refine ⟨unhide s1, ?_⟩
          refine wpAnyH_one 12 _ (by kernel_rfl) rfl ?_
          go_wp2
          refine ⟨unhide s1, wpAnyH_done (by kernel_rfl) ?_ _⟩
          go_wp2
          go_meet
          case rel => exact ⟨H, u1, u2, rfl, rfl, unhide s1, r1, p1, unhide hHz, one⟩
        · go_wp2
          have SA : Hid (Below w3.heap.size w3 (y1.alloc (.cells zPur 27))) := hide ((unhide Sy1).alloc (unhide Sy1).size _)
          have RA := hide (al1 y1 (.cells zPur 27))
          have hHz : Hid (w3.heap.size ≤ y1.heap.size) := hide (unhide Sy1).size
          have bA : Below y1.heap.size y1 (y1.alloc (.cells zPur 27)) := (Below.refl _ _).alloc (Nat.le_refl _) _
          refine ⟨unhide SA, ?_⟩
          change wpAnyH _ _ _ _ _ _ _ _ (y1.alloc (.cells zPur 27))
          obtain ⟨y2, hY⟩ : ∃ Y, y1.alloc (.cells zPur 27) = Y := ⟨_, rfl⟩
          rw [hY] at SA RA bA
          rw [hY]
          have Sy2 := SA
          have Ry2 := RA
          obtain ⟨H, hH⟩ : ∃ H, y1.heap.size = H := ⟨_, rfl⟩
          rw [hH] at Ry2 hHz
          rw [hH]
          clear hY SA RA bA hH
          refine wpAnyH_one 6 _ (by kernel_rfl) rfl ?_
          go_wp2_with fail
          refine (unhide CL _ (unhide Sy2)).mono ?_
          rintro e y3 ⟨⟨v', rfl, po⟩, bz⟩
          obtain ⟨u1, u2, rfl, one⟩ := po.parts
          have Sy3 : Hid (Below w3.heap.size w3 y3) := hide ((unhide Sy2).trans (bz.mono (unhide Sy2).size))
          have Py3 := hide (po.base (unhide Sy2).size)
          have Ry3 := hide (Below.at bz (Array.getElem?_eq_some_iff.1 (unhide Ry2)).1 (unhide Ry2))
          clear bz po
          go_wp2
          refine ⟨unhide Sy3, ?_⟩
          refine wpAnyH_take (i := 7) (v := .tuple #[.agg #[u1, u2], .int .i64 (LE : Int)]) rfl (by kernel_rfl) (by kernel_rfl) (by kernel_rfl) (fun _ _ _ h => h) (.inl ⟨by kernel_rfl, fun W _ => by kernel_rfl⟩) (unhide Sy3) ?_
          refine wpAnyH_take (i := 8) (v := .agg #[u1, u2]) rfl (by kernel_rfl) (by kernel_rfl) (by kernel_rfl) (fun _ _ _ h => h) (.inl ⟨by kernel_rfl, fun W _ => by kernel_rfl⟩) (unhide Sy3) ?_
          refine wpAnyH_take (i := 9) (v := .int .i64 (LE : Int)) rfl (by kernel_rfl) (by kernel_rfl) (by kernel_rfl) (fun _ _ _ h => h) (.inl ⟨by kernel_rfl, fun W _ => by kernel_rfl⟩) (unhide Sy3) ?_
          refine wpAnyH_one 11 _ (by kernel_rfl) rfl ?_
          have r1 := setRow_heap _ _ _ #[u1, u2] _ _ (unhide Ry3)
          have p1 := (unhide Py3).other (w' := y3.setRow H #[u1, u2]) (fun k hk => setRow_other _ _ _ _ hk) _ _ (by decide) (by decide) (unhide Ry3)
          have s1 : Hid (Below w3.heap.size w3 (y3.setRow H #[u1, u2])) := hide ((unhide Sy3).trans (below_setRow (Below.refl _ _) (unhide hHz) _))
          refine wpList_store_row rfl 27 (.tmp 14) (.tmp 35) rfl H #[u1, u2] rfl rfl 27 _ (unhide Ry3) (unhide PS _ _) rfl one ?_
          go_wp2
          refine ⟨unhide s1, ?_⟩
          refine wpAnyH_one 12 _ (by kernel_rfl) rfl ?_
          go_wp2
          refine ⟨unhide s1, wpAnyH_done (by kernel_rfl) ?_ _⟩
          go_wp2
          go_meet
          case rel => exact ⟨H, u1, u2, rfl, rfl, unhide s1, r1, p1, unhide hHz, one⟩
      · go_wp2
        have SA : Hid (Below w3.heap.size w3 (d0.alloc (.cells zPur 27))) := hide ((unhide Sd0).alloc (unhide Sd0).size _)
        have RA := hide (al1 d0 (.cells zPur 27))
        have hHz : Hid (w3.heap.size ≤ d0.heap.size) := hide (unhide Sd0).size
        have bA : Below d0.heap.size d0 (d0.alloc (.cells zPur 27)) := (Below.refl _ _).alloc (Nat.le_refl _) _
        refine ⟨unhide SA, ?_⟩
        change wpAnyH _ _ _ _ _ _ _ _ (d0.alloc (.cells zPur 27))
        obtain ⟨y1, hY⟩ : ∃ Y, d0.alloc (.cells zPur 27) = Y := ⟨_, rfl⟩
        rw [hY] at SA RA bA
        rw [hY]
        have Sy1 := SA
        have Ry1 := RA
        obtain ⟨H, hH⟩ : ∃ H, d0.heap.size = H := ⟨_, rfl⟩
        rw [hH] at Ry1 hHz
        rw [hH]
        clear hY SA RA bA hH
        refine wpAnyH_one 2 _ (by kernel_rfl) rfl ?_
        go_wp2_with fail
        refine (unhide CK _).mono ?_
        rintro e y2 ⟨rfl, bz⟩
        have Sy2 : Hid (Below w3.heap.size w3 y2) := hide ((unhide Sy1).trans (bz.mono (unhide Sy1).size))
        have Ry2 := hide (Below.at bz (Array.getElem?_eq_some_iff.1 (unhide Ry1)).1 (unhide Ry1))
        clear bz
        go_wp2
        refine ⟨unhide Sy2, ?_⟩
        refine wpAnyH_take (i := 4) (v := .agg #[.int .u32 (o : Int), .string (str n), .string (str a)]) rfl (by kernel_rfl) (by kernel_rfl) (by kernel_rfl) (fun _ _ _ h => h) (yields_build (by kernel_rfl) 81 #[(0, .tmp 30), (1, .tmp 31)] rfl #[.int .u32 (o : Int), .string (str n), .string (str a)] (by kernel_rfl)) (unhide Sy2) ?_
        refine wpAnyH_one 6 _ (by kernel_rfl) rfl ?_
        go_wp2_with fail
        refine (unhide CL _ (unhide Sy2)).mono ?_
        rintro e y3 ⟨⟨v', rfl, po⟩, bz⟩
        obtain ⟨u1, u2, rfl, one⟩ := po.parts
        have Sy3 : Hid (Below w3.heap.size w3 y3) := hide ((unhide Sy2).trans (bz.mono (unhide Sy2).size))
        have Py3 := hide (po.base (unhide Sy2).size)
        have Ry3 := hide (Below.at bz (Array.getElem?_eq_some_iff.1 (unhide Ry2)).1 (unhide Ry2))
        clear bz po
        go_wp2
        refine ⟨unhide Sy3, ?_⟩
        refine wpAnyH_take (i := 7) (v := .tuple #[.agg #[u1, u2], .int .i64 (LE : Int)]) rfl (by kernel_rfl) (by kernel_rfl) (by kernel_rfl) (fun _ _ _ h => h) (.inl ⟨by kernel_rfl, fun W _ => by kernel_rfl⟩) (unhide Sy3) ?_
        refine wpAnyH_take (i := 8) (v := .agg #[u1, u2]) rfl (by kernel_rfl) (by kernel_rfl) (by kernel_rfl) (fun _ _ _ h => h) (.inl ⟨by kernel_rfl, fun W _ => by kernel_rfl⟩) (unhide Sy3) ?_
        refine wpAnyH_take (i := 9) (v := .int .i64 (LE : Int)) rfl (by kernel_rfl) (by kernel_rfl) (by kernel_rfl) (fun _ _ _ h => h) (.inl ⟨by kernel_rfl, fun W _ => by kernel_rfl⟩) (unhide Sy3) ?_
        refine wpAnyH_one 11 _ (by kernel_rfl) rfl ?_
        have r1 := setRow_heap _ _ _ #[u1, u2] _ _ (unhide Ry3)
        have p1 := (unhide Py3).other (w' := y3.setRow H #[u1, u2]) (fun k hk => setRow_other _ _ _ _ hk) _ _ (by decide) (by decide) (unhide Ry3)
        have s1 : Hid (Below w3.heap.size w3 (y3.setRow H #[u1, u2])) := hide ((unhide Sy3).trans (below_setRow (Below.refl _ _) (unhide hHz) _))
        refine wpList_store_row rfl 27 (.tmp 14) (.tmp 35) rfl H #[u1, u2] rfl rfl 27 _ (unhide Ry3) (unhide PS _ _) rfl one ?_
        go_wp2
        refine ⟨unhide s1, ?_⟩
        refine wpAnyH_one 12 _ (by kernel_rfl) rfl ?_
        go_wp2
        refine ⟨unhide s1, wpAnyH_done (by kernel_rfl) ?_ _⟩
        go_wp2
        go_meet
        case rel => exact ⟨H, u1, u2, rfl, rfl, unhide s1, r1, p1, unhide hHz, one⟩
    case rest =>
    obtain ⟨H, u1, u2, rfl, rfl, sC, rC, pC, hHC, one⟩ := hcut
    have S4 : Hid (Below X.heap.size X wc) := hide ((unhide S3).trans (sC.mono (unhide S3).size))
    have k0 := unhide LP _ sC
    have q4 := unhide LT _ sC
    have PC := hide pC
    have HHC := hide hHC
    have HGX : Hid (X.heap.size ≤ G) := HGB
    have hHG : H ≠ G := fun e => by
      rw [e, q4] at rC
      simp only [Option.some.injEq, Obj.cells.injEq] at rC
      exact absurd rC.2.1 (by decide)
    have HHG := hide hHG
    have z3 : Hid (w.heap.size ≤ w3.heap.size) := hide (by have := (unhide S3).size; have := unhide SX; omega)
    clear LP LT CL CK sC pC hHC hHG S3
    by_cases he : LE = 0
    · have HR := unhide HL
      rw [if_pos he] at HR
      subst he
      have c4 : wc.cell? ⟨G, 3, none⟩ = some (.int .u64 (t.lk : Int)) := cell_of_row _ _ _ _ _ _ q4
      have f4 : wc.frozen? ⟨G, 3, none⟩ = false := frozen_in_row q4
      have HL2 := hide HR
      clear HR HL k0
      go_wp2_with fail
      refine (unhide CA _).mono ?_
      rintro e w5 ⟨rfl, rfl⟩
      by_cases hs4 : t.lk + k < 18446744073709551616
      · have e1 : pAdd t.lk k = (t.lk + k, 0) := by unfold pAdd; rw [if_neg (by omega)]
        have HR := unhide HL2
        rw [if_pos hs4] at HR
        rw [e1]
        obtain ⟨SM, hSM⟩ : ∃ x, t.lk + k = x := ⟨_, rfl⟩
        rw [hSM] at HR ⊢
        have r5 := heap_setCell_same w5 G 3 (tokC t).toArray _ (.int .u64 (SM : Int)) q4
        have e5 : (tokC t).toArray.setIfInBounds 3 (.int .u64 (SM : Int)) = (tokC { t with lk := SM }).toArray := rfl
        rw [e5] at r5
        have S5 : Hid (Below X.heap.size X (w5.setCell ⟨G, 3, none⟩ (.int .u64 (SM : Int)))) := hide ((unhide S4).setCell (p := ⟨G, 3, none⟩) (unhide HGX) _)
        have rH := (Below.heap_setCell w5 ⟨G, 3, none⟩ (.int .u64 (SM : Int)) H (unhide HHG)).trans rC
        have P5' : PO (w5.setCell ⟨G, 3, none⟩ (.int .u64 (SM : Int))) w3.heap.size (.agg #[u1, u2]) ts LH := by
          obtain ⟨y1, y2, hy, o1, o2⟩ := unhide PC
          refine ⟨y1, y2, hy, ?_, vowns_other o2 (fun k' hk' => Below.heap_setCell w5 ⟨G, 3, none⟩ _ k' hk') _ _ (by decide) q4⟩
          exact owns_low o1 (unhide HGW) (fun k' hk' => Below.heap_setCell w5 ⟨G, 3, none⟩ _ k' hk')
        have CW5 := hide (unhide CW SM _ _ P5'.mem)
        have tinf := tokSz { t with lk := SM }
        generalize pSetT ts { t with lk := SM } = RR at *
        subst HR
        generalize ({ t with lk := SM } : Tkn) = T2 at *
        clear HL2 hs4 e1 CA CT e5 CW q4 rC P5' hSM
        go_upto_region 10 with fail
        obtain ⟨w6, hw6⟩ : ∃ W, w5.setCell ⟨G, 3, none⟩ (.int .u64 (SM : Int)) = W := ⟨_, rfl⟩
        rw [hw6] at r5 S5 rH CW5
        rw [hw6]
        clear hw6 c4 f4 S4
        go_wp2_with (first
          | (refine wpList_load_row rfl 27 (.tmp 14) rfl H rfl 27 _ (0, 0) _ rH Tryd.underlying27 rfl (unhide PS _ _) ?_)
          | (refine wpList_load_row rfl 38 (.tmp 12) rfl G rfl 38 _ (0, 0) _ r5 Tryd.underlying38 rfl tinf ?_))
        refine (unhide CW5).mono ?_
        rintro e wz ⟨⟨v', rfl, po⟩, bz⟩
        obtain ⟨y1, y2, rfl, one3⟩ := po.parts
        have SZ := (unhide S5).trans (bz.mono (unhide S5).size)
        have rz := Below.at SZ (by have := unhide SX; omega) (unhide QR)
        have F := hide (out_set (C := w.heap.size) po (by have := (unhide S5).size; have := (unhide B0).size; omega) (by omega) rz ((unhide B0).trans (SZ.mono (unhide B0).size)) #[y1, y2])
        clear po bz SZ rH r5 CW5
        go_wp2_with (refine wpList_store_row rfl 27 (.tmp 10) (.tmp 56) rfl (w.heap.size + 1) _ rfl rfl 27 _ rz (unhide PS _ _) rfl one3 ?_)
        exact bodyPost_ret (results_row_tmp rfl _ _ (w.heap.size + 1) _ _ _ _ rfl (setRow_heap _ _ _ _ _ _ rz) Tryd.underlying27 rfl (unhide PS _ _)) rfl ⟨⟨_, rfl, (unhide F).1⟩, (unhide F).2⟩
      · have e1 : pAdd t.lk k = (0, 10) := by unfold pAdd; rw [if_pos (by omega)]
        have HR := unhide HL2
        rw [if_neg hs4] at HR
        subst HR
        rw [e1]
        have S5 : Hid (Below X.heap.size X (w5.setCell ⟨G, 3, none⟩ (.int .u64 ((0 : Nat) : Int)))) := hide ((unhide S4).setCell (p := ⟨G, 3, none⟩) (unhide HGX) _)
        clear HL2 hs4 e1 CA CW q4 rC
        go_upto_region 8 with fail
        obtain ⟨w6, hw6⟩ : ∃ W, w5.setCell ⟨G, 3, none⟩ (.int .u64 ((0 : Nat) : Int)) = W := ⟨_, rfl⟩
        change Code.wp _ _ _ _ (w5.setCell ⟨G, 3, none⟩ (.int .u64 ((0 : Nat) : Int)))
        rw [hw6] at S5
        rw [hw6]
        clear hw6 c4 f4 S4
        have k0 := Below.at (unhide S5) (by have := unhide SX; omega) (unhide Q0)
        go_wp2_with (refine wpList_load_row rfl 27 (.tmp 5) rfl w.heap.size rfl 27 _ (0, 0) _ k0 Tryd.underlying27 rfl (unhide PS _ _) ?_)
        refine (unhide CT _ (unhide S5)).mono ?_
        rintro e wz ⟨⟨v', rfl, po⟩, bz⟩
        obtain ⟨y1, y2, rfl, one3⟩ := po.parts
        have SZ := (unhide S5).trans (bz.mono (unhide S5).size)
        have rz := Below.at SZ (by have := unhide SX; omega) (unhide QR)
        have F := hide (out_set (C := w.heap.size) po (by have := (unhide S5).size; have := (unhide B0).size; omega) (by omega) rz ((unhide B0).trans (SZ.mono (unhide B0).size)) #[y1, y2])
        clear po bz SZ k0
        go_wp2_with (refine wpList_store_row rfl 27 (.tmp 10) (.tmp 52) rfl (w.heap.size + 1) _ rfl rfl 27 _ rz (unhide PS _ _) rfl one3 ?_)
        exact bodyPost_ret (results_row_tmp rfl _ _ (w.heap.size + 1) _ _ _ _ rfl (setRow_heap _ _ _ _ _ _ rz) Tryd.underlying27 rfl (unhide PS _ _)) rfl ⟨⟨_, rfl, (unhide F).1⟩, (unhide F).2⟩
    · have HR := unhide HL
      rw [if_neg he] at HR
      subst HR
      have d0 : ¬ ((LE : Nat) : Int) = 0 := by omega
      have rz := Below.at (unhide S4) (by have := unhide SX; omega) (unhide QR)
      have F := hide (out_set (C := w.heap.size) (unhide PC) (unhide z3) (by omega) rz ((unhide B0).trans ((unhide S4).mono (unhide B0).size)) #[u1, u2])
      clear HL he CA CW CT k0 q4
      go_wp2_with (first
        | (refine wpList_load_row rfl 27 (.tmp 14) rfl H rfl 27 _ (0, 0) _ rC Tryd.underlying27 rfl (unhide PS _ _) ?_)
        | (refine wpList_store_row rfl 27 (.tmp 10) (.tmp 39) rfl (w.heap.size + 1) _ rfl rfl 27 _ rz (unhide PS _ _) rfl one ?_))
      exact bodyPost_ret (results_row_tmp rfl _ _ (w.heap.size + 1) _ _ _ _ rfl (setRow_heap _ _ _ _ _ _ rz) Tryd.underlying27 rfl (unhide PS _ _)) rfl ⟨⟨_, rfl, (unhide F).1⟩, (unhide F).2⟩
end Go.Proofs.YtjfnaedcdmmigaaDoor

namespace Go.Proofs.YtjfnaedcdmmigaaDoor
open Go Go.RowKit
set_option linter.unusedSimpArgs false
set_option linter.unusedVariables false

/-- What a Burn leaves. -/
def pBurn (ts : List Tkn) (hs : List Hol) (o : Nat) (n a : List UInt8) (k : Nat) : List Tkn × List Hol × Nat :=
  match pKn ts o n with
  | none => (ts, hs, 40)
  | some t => if (pLess hs o n a k).2 = 0 then (if t.bu + k < 18446744073709551616 then (pSetT ts { t with bu := t.bu + k }, (pLess hs o n a k).1, 0) else (ts, hs, 10)) else (ts, (pLess hs o n a k).1, (pLess hs o n a k).2)
set_option maxHeartbeats 4000000 in
set_option maxRecDepth 1000000 in
theorem burn_calls (ts : List Tkn) (hs : List Hol) (hn1 : ts.length ≤ 1000) (hn2 : hs.length ≤ 999) (htk : ∀ t ∈ ts, t.ok) (hok : ∀ h ∈ hs, h.ok) (v : Value) (o : Nat) (n a : List UInt8) (hnl : n.length ≤ 1000) (hal : a.length ≤ 1000) (k : Nat) (hk : k < 18446744073709551616) (w : World) (hU : UTabs w) (hP : PM w v ts hs) :
    Calls Tryd.prog 21 #[v, .int .u32 (o : Int), .string (str n), .string (str a), .int .u64 (k : Int)] w fun e w' => (∃ v', e = .returned (.tuple #[v', .int .i64 ((pBurn ts hs o n a k).2.2 : Int)]) ∧ PO w' w.heap.size v' (pBurn ts hs o n a k).1 (pBurn ts hs o n a k).2.1) ∧ Below w.heap.size w w' := by
  obtain ⟨p1, c1, p2, c2, rfl, hT, hH⟩ := hP
  obtain ⟨q0, q1⟩ := al2 w (.cells #[.slice p1 ts.length c1, .slice p2 hs.length c2] 27) (.cells zPur 27)
  have b0 := bel2 w (.cells #[.slice p1 ts.length c1, .slice p2 hs.length c2] 27) (.cells zPur 27)
  have sX : ((w.alloc (.cells #[.slice p1 ts.length c1, .slice p2 hs.length c2] 27)).alloc (.cells zPur 27)).heap.size = w.heap.size + 1 + 1 := by simp
  obtain ⟨X, hX⟩ : ∃ X, (w.alloc (.cells #[.slice p1 ts.length c1, .slice p2 hs.length c2] 27)).alloc (.cells zPur 27) = X := ⟨_, rfl⟩
  have HX := hide hX
  rw [hX] at q0 q1 b0 sX
  have PX : PM X (.agg #[.slice p1 ts.length c1, .slice p2 hs.length c2]) ts hs := ⟨p1, c1, p2, c2, rfl, hT.below b0, hH.below b0⟩
  have CN := hide (known_calls ts hs hn1 (by omega) _ o n X PX)
  have CT := hide fun W (hW : Below X.heap.size X W) => twin_calls ts hs hn1 (by omega) _ W (PX.below hW)
  have QR := hide q1
  have Q0 := hide q0
  have B0 := hide b0
  have SX := hide sX
  have PS := hide fun v1 v2 => purSz v1 v2
  cases hK : pKn ts o n with
  | none =>
    have hR : pBurn ts hs o n a k = (ts, hs, 40) := by unfold pBurn; rw [hK]
    rw [hR]
    rw [hK, Option.getD_none, Option.isSome_none] at CN
    obtain ⟨TT, hTT⟩ : ∃ t, zTok = t := ⟨_, rfl⟩
    rw [hTT] at CN
    clear hT hH hX PX q1 b0 sX hn1 hn2 hok htk hnl hal hU hR hk hTT hK
    unfold zPur at HX
    go_enter Tryd.func21, Tryd.ntmps21
    go_upto_region 1 with fail
    change Code.wp _ _ _ _ ((w.alloc (.cells #[.slice p1 ts.length c1, .slice p2 hs.length c2] 27)).alloc (.cells #[.slice none 0 0, .slice none 0 0] 27))
    rw [unhide HX]
    go_wp2_with (refine wpList_load_row rfl 27 (.tmp 5) rfl w.heap.size rfl 27 _ (0, 0) _ q0 Tryd.underlying27 rfl (unhide PS _ _) ?_)
    refine (unhide CN).mono ?_
    rintro e w2 ⟨rfl, b2⟩
    have S2 : Hid (Below X.heap.size X w2) := hide b2
    have tinf := tokSz TT
    have tone := tokOne TT
    clear b2 CN q0
    go_upto_region 2 with (refine wpList_store_newV rfl 38 (.tmp 12) (.tmp 21) rfl w2 _ _ (tokC TT).toArray rfl rfl tinf rfl tone ?_; intro w3 q3 b3 z3)
    have S3 : Hid (Below X.heap.size X w3) := hide ((unhide S2).trans (b3.mono (unhide S2).size))
    have HGB : Hid (X.heap.size ≤ w2.heap.size) := hide (unhide S2).size
    obtain ⟨G, hG⟩ : ∃ G, w2.heap.size = G := ⟨_, rfl⟩
    rw [hG] at q3 HGB
    simp only [hG]
    clear b3 z3 S2 hG tinf tone
    have k0 := Below.at (unhide S3) (by have := unhide SX; omega) (unhide Q0)
    clear q3 HGB
    go_wp2_with (refine wpList_load_row rfl 27 (.tmp 5) rfl w.heap.size rfl 27 _ (0, 0) _ k0 Tryd.underlying27 rfl (unhide PS _ _) ?_)
    refine (unhide CT _ (unhide S3)).mono ?_
    rintro e wz ⟨⟨v', rfl, po⟩, bz⟩
    obtain ⟨u1, u2, rfl, one⟩ := po.parts
    have SZ := (unhide S3).trans (bz.mono (unhide S3).size)
    have rz := Below.at SZ (by have := unhide SX; omega) (unhide QR)
    have F := hide (out_set (C := w.heap.size) po (by have := (unhide S3).size; have := (unhide B0).size; omega) (by omega) rz ((unhide B0).trans (SZ.mono (unhide B0).size)) #[u1, u2])
    clear po bz SZ k0
    go_wp2_with (refine wpList_store_row rfl 27 (.tmp 10) (.tmp 26) rfl (w.heap.size + 1) _ rfl rfl 27 _ rz (unhide PS _ _) rfl one ?_)
    exact bodyPost_ret (results_row_tmp rfl _ _ (w.heap.size + 1) _ _ _ _ rfl (setRow_heap _ _ _ _ _ _ rz) Tryd.underlying27 rfl (unhide PS _ _)) rfl ⟨⟨_, rfl, (unhide F).1⟩, (unhide F).2⟩
  | some t =>
    have hkey := kn_key hK
    have hto := htk t hkey.2.2
    rw [hK, Option.getD_some, Option.isSome_some] at CN
    have hR : pBurn ts hs o n a k = if (pLess hs o n a k).2 = 0 then (if t.bu + k < 18446744073709551616 then (pSetT ts { t with bu := t.bu + k }, (pLess hs o n a k).1, 0) else (ts, hs, 10)) else (ts, (pLess hs o n a k).1, (pLess hs o n a k).2) := by unfold pBurn; rw [hK]
    have HL := hide hR
    obtain ⟨R, hRR⟩ : ∃ R, pBurn ts hs o n a k = R := ⟨_, rfl⟩
    rw [hRR] at HL
    rw [hRR]
    have CK := hide fun W => keyOf_calls t W
    rw [hkey.1, hkey.2.1] at CK
    have CA := hide fun W => amtAdd_calls t.bu k (by have := hto.u; omega) hk W
    have CL0 := hide fun W (hW : Below X.heap.size X W) => less_calls ts hs hn1 (by omega) hok _ o n a hnl hal k hk W ((hU.below' b0).below' hW) (PX.below hW)
    have hll := pLess_len hs o n a k
    have hfi := kn_idx (ts := ts) (o := o) (n := n) (by rw [hK]; rfl)
    have CW := hide fun (m : Nat) v' W (hP : PM W v' ts (pLess hs o n a k).1) => withToken_calls ts (pLess hs o n a k).1 hn1 (by omega) v' { t with bu := m } (by show ts.findIdx (isT t.o t.n) < ts.length; rw [hkey.1, hkey.2.1]; exact hfi) W hP
    have hkv : hkv o n a = #[.int .u32 (o : Int), .string (str n), .string (str a)] := rfl
    have htv : tkv o n = #[.int .u32 (o : Int), .string (str n)] := rfl
    rw [htv] at CK
    rw [hkv] at CL0
    obtain ⟨LH, hLH⟩ : ∃ x, (pLess hs o n a k).1 = x := ⟨_, rfl⟩
    obtain ⟨LE, hLE⟩ : ∃ x, (pLess hs o n a k).2 = x := ⟨_, rfl⟩
    rw [hLH, hLE] at HL CL0
    rw [hLH] at CW
    clear hT hH hX PX q1 b0 sX hn1 hn2 hok htk hnl hal hU hR hk hRR hkey hto hK hll hfi hkv htv hLH hLE
    unfold zPur at HX
    go_enter Tryd.func21, Tryd.ntmps21
    go_upto_region 1 with fail
    change Code.wp _ _ _ _ ((w.alloc (.cells #[.slice p1 ts.length c1, .slice p2 hs.length c2] 27)).alloc (.cells #[.slice none 0 0, .slice none 0 0] 27))
    rw [unhide HX]
    go_wp2_with (refine wpList_load_row rfl 27 (.tmp 5) rfl w.heap.size rfl 27 _ (0, 0) _ q0 Tryd.underlying27 rfl (unhide PS _ _) ?_)
    refine (unhide CN).mono ?_
    rintro e w2 ⟨rfl, b2⟩
    have S2 : Hid (Below X.heap.size X w2) := hide b2
    have tinf := tokSz t
    have tone := tokOne t
    clear b2 CN q0
    go_upto_region 2 with (refine wpList_store_newV rfl 38 (.tmp 12) (.tmp 21) rfl w2 _ _ (tokC t).toArray rfl rfl tinf rfl tone ?_; intro w3 q3 b3 z3)
    have S3 : Hid (Below X.heap.size X w3) := hide ((unhide S2).trans (b3.mono (unhide S2).size))
    have HGB : Hid (X.heap.size ≤ w2.heap.size) := hide (unhide S2).size
    obtain ⟨G, hG⟩ : ∃ G, w2.heap.size = G := ⟨_, rfl⟩
    rw [hG] at q3 HGB
    simp only [hG]
    clear b3 z3 S2 hG tinf tone
    have k0 := Below.at (unhide S3) (by have := unhide SX; omega) (unhide Q0)
    have CL := hide fun W (hW : Below w3.heap.size w3 W) => unhide CL0 W ((unhide S3).trans (hW.mono (unhide S3).size))
    have LP : Hid (∀ W, Below w3.heap.size w3 W → W.heap[w.heap.size]? = some (.cells #[.slice p1 ts.length c1, .slice p2 hs.length c2] 27 (0, 0))) := hide fun W hW => Below.at hW (Array.getElem?_eq_some_iff.1 k0).1 k0
    have LT : Hid (∀ W, Below w3.heap.size w3 W → W.heap[G]? = some (.cells (tokC t).toArray 38 (0, 0))) := hide fun W hW => Below.at hW (Array.getElem?_eq_some_iff.1 q3).1 q3
    have HGW : Hid (G < w3.heap.size) := hide (Array.getElem?_eq_some_iff.1 q3).1
    clear CL0 k0 q3
    go_upto_region 4 with fail
    go_cut [14, 15] (fun x y wc => ∃ (H : Nat) (u1 u2 : Value), x = .pointer (some ⟨H, 0, none⟩) ∧ y = .int .i64 (LE : Int) ∧ Below w3.heap.size w3 wc ∧ wc.heap[H]? = some (.cells #[u1, u2] 27 (0, 0)) ∧ PO wc w3.heap.size (.agg #[u1, u2]) ts LH ∧ w3.heap.size ≤ H ∧ (#[u1, u2] : Array Value).all (·.oneCell') = true)
    case first =>
      have hS0 : Below w3.heap.size w3 ({ w3 with drawn := w3.drawn + 1 } : World) := ⟨rfl, rfl, rfl, Nat.le_refl _, fun _ _ => rfl⟩
      refine wp_region_held (S := fun W => Below w3.heap.size w3 W) mixed ?_
      obtain ⟨d0, hd0⟩ : ∃ d, { w3 with drawn := w3.drawn + 1 } = d := ⟨_, rfl⟩
      rw [hd0] at hS0
      rw [hd0]
      clear hd0
      refine wpAnyH_take (i := 0) rfl (by kernel_rfl) (by kernel_rfl) (by kernel_rfl) (fun _ _ _ h => h) (yields_row (by kernel_rfl) 27 (.tmp 5) rfl w.heap.size (by kernel_rfl) 27 _ (0, 0) _ (fun W hW => unhide LP W hW) Tryd.underlying27 rfl (unhide PS _ _)) hS0 ?_
      refine wpAnyH_take (i := 1) rfl (by kernel_rfl) (by kernel_rfl) (by kernel_rfl) (fun _ _ _ h => h) (yields_row (by kernel_rfl) 38 (.tmp 12) rfl G (by kernel_rfl) 38 _ (0, 0) _ (fun W hW => unhide LT W hW) Tryd.underlying38 rfl (tokSz t)) hS0 ?_
      refine wpAnyH_take (i := 3) (v := .string (str a)) rfl (by kernel_rfl) (by kernel_rfl) (by kernel_rfl) (fun _ _ _ h => h) (.inl ⟨by kernel_rfl, fun W _ => by kernel_rfl⟩) hS0 ?_
      refine wpAnyH_take (i := 5) (v := .int .u64 (k : Int)) rfl (by kernel_rfl) (by kernel_rfl) (by kernel_rfl) (fun _ _ _ h => h) (.inl ⟨by kernel_rfl, fun W _ => by kernel_rfl⟩) hS0 ?_
      have Sd0 := hide hS0
      clear hS0
      refine wpAnyH_two 2 10 _ _ (by kernel_rfl) rfl rfl ?_ ?_
      · go_wp2_with fail
        refine (unhide CK _).mono ?_
        rintro e y1 ⟨rfl, bz⟩
        have Sy1 : Hid (Below w3.heap.size w3 y1) := hide ((unhide Sd0).trans (bz.mono (unhide Sd0).size))
        clear bz
        go_wp2
        refine ⟨unhide Sy1, ?_⟩
        refine wpAnyH_take (i := 4) (v := .agg #[.int .u32 (o : Int), .string (str n), .string (str a)]) rfl (by kernel_rfl) (by kernel_rfl) (by kernel_rfl) (fun _ _ _ h => h) (yields_build (by kernel_rfl) 81 #[(0, .tmp 30), (1, .tmp 31)] rfl #[.int .u32 (o : Int), .string (str n), .string (str a)] (by kernel_rfl)) (unhide Sy1) ?_
        refine wpAnyH_two 6 10 _ _ (by kernel_rfl) rfl rfl ?_ ?_
        · go_wp2_with fail
          refine (unhide CL _ (unhide Sy1)).mono ?_
          rintro e y2 ⟨⟨v', rfl, po⟩, bz⟩
          obtain ⟨u1, u2, rfl, one⟩ := po.parts
          have Sy2 : Hid (Below w3.heap.size w3 y2) := hide ((unhide Sy1).trans (bz.mono (unhide Sy1).size))
          have Py2 := hide (po.base (unhide Sy1).size)
          clear bz po
          go_wp2
          refine ⟨unhide Sy2, ?_⟩
          refine wpAnyH_take (i := 7) (v := .tuple #[.agg #[u1, u2], .int .i64 (LE : Int)]) rfl (by kernel_rfl) (by kernel_rfl) (by kernel_rfl) (fun _ _ _ h => h) (.inl ⟨by kernel_rfl, fun W _ => by kernel_rfl⟩) (unhide Sy2) ?_
          refine wpAnyH_take (i := 8) (v := .agg #[u1, u2]) rfl (by kernel_rfl) (by kernel_rfl) (by kernel_rfl) (fun _ _ _ h => h) (.inl ⟨by kernel_rfl, fun W _ => by kernel_rfl⟩) (unhide Sy2) ?_
          refine wpAnyH_take (i := 9) (v := .int .i64 (LE : Int)) rfl (by kernel_rfl) (by kernel_rfl) (by kernel_rfl) (fun _ _ _ h => h) (.inl ⟨by kernel_rfl, fun W _ => by kernel_rfl⟩) (unhide Sy2) ?_
          refine wpAnyH_one 10 _ (by kernel_rfl) rfl ?_
          go_wp2
          have SA : Hid (Below w3.heap.size w3 (y2.alloc (.cells zPur 27))) := hide ((unhide Sy2).alloc (unhide Sy2).size _)
          have RA := hide (al1 y2 (.cells zPur 27))
          have hHz : Hid (w3.heap.size ≤ y2.heap.size) := hide (unhide Sy2).size
          have bA : Below y2.heap.size y2 (y2.alloc (.cells zPur 27)) := (Below.refl _ _).alloc (Nat.le_refl _) _
          refine ⟨unhide SA, ?_⟩
          change wpAnyH _ _ _ _ _ _ _ _ (y2.alloc (.cells zPur 27))
          obtain ⟨y3, hY⟩ : ∃ Y, y2.alloc (.cells zPur 27) = Y := ⟨_, rfl⟩
          rw [hY] at SA RA bA
          rw [hY]
          have Sy3 := SA
          have Ry3 := RA
          have Py3 := hide ((unhide Py2).below bA)
          obtain ⟨H, hH⟩ : ∃ H, y2.heap.size = H := ⟨_, rfl⟩
          rw [hH] at Ry3 hHz
          rw [hH]
          clear hY SA RA bA hH
          refine wpAnyH_one 11 _ (by kernel_rfl) rfl ?_
          have r1 := setRow_heap _ _ _ #[u1, u2] _ _ (unhide Ry3)
          have p1 := (unhide Py3).other (w' := y3.setRow H #[u1, u2]) (fun k hk => setRow_other _ _ _ _ hk) _ _ (by decide) (by decide) (unhide Ry3)
          have s1 : Hid (Below w3.heap.size w3 (y3.setRow H #[u1, u2])) := hide ((unhide Sy3).trans (below_setRow (Below.refl _ _) (unhide hHz) _))
          refine wpList_store_row rfl 27 (.tmp 14) (.tmp 35) rfl H #[u1, u2] rfl rfl 27 _ (unhide Ry3) (unhide PS _ _) rfl one ?_
          go_wp2
          refine ⟨unhide s1, ?_⟩
          refine wpAnyH_one 12 _ (by kernel_rfl) rfl ?_
          go_wp2
          refine ⟨unhide s1, wpAnyH_done (by kernel_rfl) ?_ _⟩
          go_wp2
          go_meet
          case rel => exact ⟨H, u1, u2, rfl, rfl, unhide s1, r1, p1, unhide hHz, one⟩
        · go_wp2
          have SA : Hid (Below w3.heap.size w3 (y1.alloc (.cells zPur 27))) := hide ((unhide Sy1).alloc (unhide Sy1).size _)
          have RA := hide (al1 y1 (.cells zPur 27))
          have hHz : Hid (w3.heap.size ≤ y1.heap.size) := hide (unhide Sy1).size
          have bA : Below y1.heap.size y1 (y1.alloc (.cells zPur 27)) := (Below.refl _ _).alloc (Nat.le_refl _) _
          refine ⟨unhide SA, ?_⟩
          change wpAnyH _ _ _ _ _ _ _ _ (y1.alloc (.cells zPur 27))
          obtain ⟨y2, hY⟩ : ∃ Y, y1.alloc (.cells zPur 27) = Y := ⟨_, rfl⟩
          rw [hY] at SA RA bA
          rw [hY]
          have Sy2 := SA
          have Ry2 := RA
          obtain ⟨H, hH⟩ : ∃ H, y1.heap.size = H := ⟨_, rfl⟩
          rw [hH] at Ry2 hHz
          rw [hH]
          clear hY SA RA bA hH
          refine wpAnyH_one 6 _ (by kernel_rfl) rfl ?_
          go_wp2_with fail
          refine (unhide CL _ (unhide Sy2)).mono ?_
          rintro e y3 ⟨⟨v', rfl, po⟩, bz⟩
          obtain ⟨u1, u2, rfl, one⟩ := po.parts
          have Sy3 : Hid (Below w3.heap.size w3 y3) := hide ((unhide Sy2).trans (bz.mono (unhide Sy2).size))
          have Py3 := hide (po.base (unhide Sy2).size)
          have Ry3 := hide (Below.at bz (Array.getElem?_eq_some_iff.1 (unhide Ry2)).1 (unhide Ry2))
          clear bz po
          go_wp2
          refine ⟨unhide Sy3, ?_⟩
          refine wpAnyH_take (i := 7) (v := .tuple #[.agg #[u1, u2], .int .i64 (LE : Int)]) rfl (by kernel_rfl) (by kernel_rfl) (by kernel_rfl) (fun _ _ _ h => h) (.inl ⟨by kernel_rfl, fun W _ => by kernel_rfl⟩) (unhide Sy3) ?_
          refine wpAnyH_take (i := 8) (v := .agg #[u1, u2]) rfl (by kernel_rfl) (by kernel_rfl) (by kernel_rfl) (fun _ _ _ h => h) (.inl ⟨by kernel_rfl, fun W _ => by kernel_rfl⟩) (unhide Sy3) ?_
          refine wpAnyH_take (i := 9) (v := .int .i64 (LE : Int)) rfl (by kernel_rfl) (by kernel_rfl) (by kernel_rfl) (fun _ _ _ h => h) (.inl ⟨by kernel_rfl, fun W _ => by kernel_rfl⟩) (unhide Sy3) ?_
          refine wpAnyH_one 11 _ (by kernel_rfl) rfl ?_
          have r1 := setRow_heap _ _ _ #[u1, u2] _ _ (unhide Ry3)
          have p1 := (unhide Py3).other (w' := y3.setRow H #[u1, u2]) (fun k hk => setRow_other _ _ _ _ hk) _ _ (by decide) (by decide) (unhide Ry3)
          have s1 : Hid (Below w3.heap.size w3 (y3.setRow H #[u1, u2])) := hide ((unhide Sy3).trans (below_setRow (Below.refl _ _) (unhide hHz) _))
          refine wpList_store_row rfl 27 (.tmp 14) (.tmp 35) rfl H #[u1, u2] rfl rfl 27 _ (unhide Ry3) (unhide PS _ _) rfl one ?_
          go_wp2
          refine ⟨unhide s1, ?_⟩
          refine wpAnyH_one 12 _ (by kernel_rfl) rfl ?_
          go_wp2
          refine ⟨unhide s1, wpAnyH_done (by kernel_rfl) ?_ _⟩
          go_wp2
          go_meet
          case rel => exact ⟨H, u1, u2, rfl, rfl, unhide s1, r1, p1, unhide hHz, one⟩
      · go_wp2
        have SA : Hid (Below w3.heap.size w3 (d0.alloc (.cells zPur 27))) := hide ((unhide Sd0).alloc (unhide Sd0).size _)
        have RA := hide (al1 d0 (.cells zPur 27))
        have hHz : Hid (w3.heap.size ≤ d0.heap.size) := hide (unhide Sd0).size
        have bA : Below d0.heap.size d0 (d0.alloc (.cells zPur 27)) := (Below.refl _ _).alloc (Nat.le_refl _) _
        refine ⟨unhide SA, ?_⟩
        change wpAnyH _ _ _ _ _ _ _ _ (d0.alloc (.cells zPur 27))
        obtain ⟨y1, hY⟩ : ∃ Y, d0.alloc (.cells zPur 27) = Y := ⟨_, rfl⟩
        rw [hY] at SA RA bA
        rw [hY]
        have Sy1 := SA
        have Ry1 := RA
        obtain ⟨H, hH⟩ : ∃ H, d0.heap.size = H := ⟨_, rfl⟩
        rw [hH] at Ry1 hHz
        rw [hH]
        clear hY SA RA bA hH
        refine wpAnyH_one 2 _ (by kernel_rfl) rfl ?_
        go_wp2_with fail
        refine (unhide CK _).mono ?_
        rintro e y2 ⟨rfl, bz⟩
        have Sy2 : Hid (Below w3.heap.size w3 y2) := hide ((unhide Sy1).trans (bz.mono (unhide Sy1).size))
        have Ry2 := hide (Below.at bz (Array.getElem?_eq_some_iff.1 (unhide Ry1)).1 (unhide Ry1))
        clear bz
        go_wp2
        refine ⟨unhide Sy2, ?_⟩
        refine wpAnyH_take (i := 4) (v := .agg #[.int .u32 (o : Int), .string (str n), .string (str a)]) rfl (by kernel_rfl) (by kernel_rfl) (by kernel_rfl) (fun _ _ _ h => h) (yields_build (by kernel_rfl) 81 #[(0, .tmp 30), (1, .tmp 31)] rfl #[.int .u32 (o : Int), .string (str n), .string (str a)] (by kernel_rfl)) (unhide Sy2) ?_
        refine wpAnyH_one 6 _ (by kernel_rfl) rfl ?_
        go_wp2_with fail
        refine (unhide CL _ (unhide Sy2)).mono ?_
        rintro e y3 ⟨⟨v', rfl, po⟩, bz⟩
        obtain ⟨u1, u2, rfl, one⟩ := po.parts
        have Sy3 : Hid (Below w3.heap.size w3 y3) := hide ((unhide Sy2).trans (bz.mono (unhide Sy2).size))
        have Py3 := hide (po.base (unhide Sy2).size)
        have Ry3 := hide (Below.at bz (Array.getElem?_eq_some_iff.1 (unhide Ry2)).1 (unhide Ry2))
        clear bz po
        go_wp2
        refine ⟨unhide Sy3, ?_⟩
        refine wpAnyH_take (i := 7) (v := .tuple #[.agg #[u1, u2], .int .i64 (LE : Int)]) rfl (by kernel_rfl) (by kernel_rfl) (by kernel_rfl) (fun _ _ _ h => h) (.inl ⟨by kernel_rfl, fun W _ => by kernel_rfl⟩) (unhide Sy3) ?_
        refine wpAnyH_take (i := 8) (v := .agg #[u1, u2]) rfl (by kernel_rfl) (by kernel_rfl) (by kernel_rfl) (fun _ _ _ h => h) (.inl ⟨by kernel_rfl, fun W _ => by kernel_rfl⟩) (unhide Sy3) ?_
        refine wpAnyH_take (i := 9) (v := .int .i64 (LE : Int)) rfl (by kernel_rfl) (by kernel_rfl) (by kernel_rfl) (fun _ _ _ h => h) (.inl ⟨by kernel_rfl, fun W _ => by kernel_rfl⟩) (unhide Sy3) ?_
        refine wpAnyH_one 11 _ (by kernel_rfl) rfl ?_
        have r1 := setRow_heap _ _ _ #[u1, u2] _ _ (unhide Ry3)
        have p1 := (unhide Py3).other (w' := y3.setRow H #[u1, u2]) (fun k hk => setRow_other _ _ _ _ hk) _ _ (by decide) (by decide) (unhide Ry3)
        have s1 : Hid (Below w3.heap.size w3 (y3.setRow H #[u1, u2])) := hide ((unhide Sy3).trans (below_setRow (Below.refl _ _) (unhide hHz) _))
        refine wpList_store_row rfl 27 (.tmp 14) (.tmp 35) rfl H #[u1, u2] rfl rfl 27 _ (unhide Ry3) (unhide PS _ _) rfl one ?_
        go_wp2
        refine ⟨unhide s1, ?_⟩
        refine wpAnyH_one 12 _ (by kernel_rfl) rfl ?_
        go_wp2
        refine ⟨unhide s1, wpAnyH_done (by kernel_rfl) ?_ _⟩
        go_wp2
        go_meet
        case rel => exact ⟨H, u1, u2, rfl, rfl, unhide s1, r1, p1, unhide hHz, one⟩
    case rest =>
    obtain ⟨H, u1, u2, rfl, rfl, sC, rC, pC, hHC, one⟩ := hcut
    have S4 : Hid (Below X.heap.size X wc) := hide ((unhide S3).trans (sC.mono (unhide S3).size))
    have k0 := unhide LP _ sC
    have q4 := unhide LT _ sC
    have PC := hide pC
    have HHC := hide hHC
    have HGX : Hid (X.heap.size ≤ G) := HGB
    have hHG : H ≠ G := fun e => by
      rw [e, q4] at rC
      simp only [Option.some.injEq, Obj.cells.injEq] at rC
      exact absurd rC.2.1 (by decide)
    have HHG := hide hHG
    have z3 : Hid (w.heap.size ≤ w3.heap.size) := hide (by have := (unhide S3).size; have := unhide SX; omega)
    clear LP LT CL CK sC pC hHC hHG S3
    by_cases he : LE = 0
    · have HR := unhide HL
      rw [if_pos he] at HR
      subst he
      have c4 : wc.cell? ⟨G, 6, none⟩ = some (.int .u64 (t.bu : Int)) := cell_of_row _ _ _ _ _ _ q4
      have f4 : wc.frozen? ⟨G, 6, none⟩ = false := frozen_in_row q4
      have HL2 := hide HR
      clear HR HL k0
      go_wp2_with fail
      refine (unhide CA _).mono ?_
      rintro e w5 ⟨rfl, rfl⟩
      by_cases hs4 : t.bu + k < 18446744073709551616
      · have e1 : pAdd t.bu k = (t.bu + k, 0) := by unfold pAdd; rw [if_neg (by omega)]
        have HR := unhide HL2
        rw [if_pos hs4] at HR
        rw [e1]
        obtain ⟨SM, hSM⟩ : ∃ x, t.bu + k = x := ⟨_, rfl⟩
        rw [hSM] at HR ⊢
        have r5 := heap_setCell_same w5 G 6 (tokC t).toArray _ (.int .u64 (SM : Int)) q4
        have e5 : (tokC t).toArray.setIfInBounds 6 (.int .u64 (SM : Int)) = (tokC { t with bu := SM }).toArray := rfl
        rw [e5] at r5
        have S5 : Hid (Below X.heap.size X (w5.setCell ⟨G, 6, none⟩ (.int .u64 (SM : Int)))) := hide ((unhide S4).setCell (p := ⟨G, 6, none⟩) (unhide HGX) _)
        have rH := (Below.heap_setCell w5 ⟨G, 6, none⟩ (.int .u64 (SM : Int)) H (unhide HHG)).trans rC
        have P5' : PO (w5.setCell ⟨G, 6, none⟩ (.int .u64 (SM : Int))) w3.heap.size (.agg #[u1, u2]) ts LH := by
          obtain ⟨y1, y2, hy, o1, o2⟩ := unhide PC
          refine ⟨y1, y2, hy, ?_, vowns_other o2 (fun k' hk' => Below.heap_setCell w5 ⟨G, 6, none⟩ _ k' hk') _ _ (by decide) q4⟩
          exact owns_low o1 (unhide HGW) (fun k' hk' => Below.heap_setCell w5 ⟨G, 6, none⟩ _ k' hk')
        have CW5 := hide (unhide CW SM _ _ P5'.mem)
        have tinf := tokSz { t with bu := SM }
        generalize pSetT ts { t with bu := SM } = RR at *
        subst HR
        generalize ({ t with bu := SM } : Tkn) = T2 at *
        clear HL2 hs4 e1 CA CT e5 CW q4 rC P5' hSM
        go_upto_region 10 with fail
        obtain ⟨w6, hw6⟩ : ∃ W, w5.setCell ⟨G, 6, none⟩ (.int .u64 (SM : Int)) = W := ⟨_, rfl⟩
        rw [hw6] at r5 S5 rH CW5
        rw [hw6]
        clear hw6 c4 f4 S4
        go_wp2_with (first
          | (refine wpList_load_row rfl 27 (.tmp 14) rfl H rfl 27 _ (0, 0) _ rH Tryd.underlying27 rfl (unhide PS _ _) ?_)
          | (refine wpList_load_row rfl 38 (.tmp 12) rfl G rfl 38 _ (0, 0) _ r5 Tryd.underlying38 rfl tinf ?_))
        refine (unhide CW5).mono ?_
        rintro e wz ⟨⟨v', rfl, po⟩, bz⟩
        obtain ⟨y1, y2, rfl, one3⟩ := po.parts
        have SZ := (unhide S5).trans (bz.mono (unhide S5).size)
        have rz := Below.at SZ (by have := unhide SX; omega) (unhide QR)
        have F := hide (out_set (C := w.heap.size) po (by have := (unhide S5).size; have := (unhide B0).size; omega) (by omega) rz ((unhide B0).trans (SZ.mono (unhide B0).size)) #[y1, y2])
        clear po bz SZ rH r5 CW5
        go_wp2_with (refine wpList_store_row rfl 27 (.tmp 10) (.tmp 56) rfl (w.heap.size + 1) _ rfl rfl 27 _ rz (unhide PS _ _) rfl one3 ?_)
        exact bodyPost_ret (results_row_tmp rfl _ _ (w.heap.size + 1) _ _ _ _ rfl (setRow_heap _ _ _ _ _ _ rz) Tryd.underlying27 rfl (unhide PS _ _)) rfl ⟨⟨_, rfl, (unhide F).1⟩, (unhide F).2⟩
      · have e1 : pAdd t.bu k = (0, 10) := by unfold pAdd; rw [if_pos (by omega)]
        have HR := unhide HL2
        rw [if_neg hs4] at HR
        subst HR
        rw [e1]
        have S5 : Hid (Below X.heap.size X (w5.setCell ⟨G, 6, none⟩ (.int .u64 ((0 : Nat) : Int)))) := hide ((unhide S4).setCell (p := ⟨G, 6, none⟩) (unhide HGX) _)
        clear HL2 hs4 e1 CA CW q4 rC
        go_upto_region 8 with fail
        obtain ⟨w6, hw6⟩ : ∃ W, w5.setCell ⟨G, 6, none⟩ (.int .u64 ((0 : Nat) : Int)) = W := ⟨_, rfl⟩
        change Code.wp _ _ _ _ (w5.setCell ⟨G, 6, none⟩ (.int .u64 ((0 : Nat) : Int)))
        rw [hw6] at S5
        rw [hw6]
        clear hw6 c4 f4 S4
        have k0 := Below.at (unhide S5) (by have := unhide SX; omega) (unhide Q0)
        go_wp2_with (refine wpList_load_row rfl 27 (.tmp 5) rfl w.heap.size rfl 27 _ (0, 0) _ k0 Tryd.underlying27 rfl (unhide PS _ _) ?_)
        refine (unhide CT _ (unhide S5)).mono ?_
        rintro e wz ⟨⟨v', rfl, po⟩, bz⟩
        obtain ⟨y1, y2, rfl, one3⟩ := po.parts
        have SZ := (unhide S5).trans (bz.mono (unhide S5).size)
        have rz := Below.at SZ (by have := unhide SX; omega) (unhide QR)
        have F := hide (out_set (C := w.heap.size) po (by have := (unhide S5).size; have := (unhide B0).size; omega) (by omega) rz ((unhide B0).trans (SZ.mono (unhide B0).size)) #[y1, y2])
        clear po bz SZ k0
        go_wp2_with (refine wpList_store_row rfl 27 (.tmp 10) (.tmp 52) rfl (w.heap.size + 1) _ rfl rfl 27 _ rz (unhide PS _ _) rfl one3 ?_)
        exact bodyPost_ret (results_row_tmp rfl _ _ (w.heap.size + 1) _ _ _ _ rfl (setRow_heap _ _ _ _ _ _ rz) Tryd.underlying27 rfl (unhide PS _ _)) rfl ⟨⟨_, rfl, (unhide F).1⟩, (unhide F).2⟩
    · have HR := unhide HL
      rw [if_neg he] at HR
      subst HR
      have d0 : ¬ ((LE : Nat) : Int) = 0 := by omega
      have rz := Below.at (unhide S4) (by have := unhide SX; omega) (unhide QR)
      have F := hide (out_set (C := w.heap.size) (unhide PC) (unhide z3) (by omega) rz ((unhide B0).trans ((unhide S4).mono (unhide B0).size)) #[u1, u2])
      clear HL he CA CW CT k0 q4
      go_wp2_with (first
        | (refine wpList_load_row rfl 27 (.tmp 14) rfl H rfl 27 _ (0, 0) _ rC Tryd.underlying27 rfl (unhide PS _ _) ?_)
        | (refine wpList_store_row rfl 27 (.tmp 10) (.tmp 39) rfl (w.heap.size + 1) _ rfl rfl 27 _ rz (unhide PS _ _) rfl one ?_))
      exact bodyPost_ret (results_row_tmp rfl _ _ (w.heap.size + 1) _ _ _ _ rfl (setRow_heap _ _ _ _ _ _ rz) Tryd.underlying27 rfl (unhide PS _ _)) rfl ⟨⟨_, rfl, (unhide F).1⟩, (unhide F).2⟩
end Go.Proofs.YtjfnaedcdmmigaaDoor
