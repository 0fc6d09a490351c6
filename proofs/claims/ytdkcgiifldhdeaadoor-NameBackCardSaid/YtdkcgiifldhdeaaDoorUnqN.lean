/-
  WHAT name.readNumber AND name.readPiece RETURN: the first piece of a quote, read, where one stands there.
-/
import Derived.Lib.IndexLaws
import Derived.Test.YtdkcgiifldhdeaaDoorParseU
import Derived.Test.YtdkcgiifldhdeaaDoorUnqP
import Derived.Test.YtdkcgiifldhdeaaDoorShelfI
namespace Go.Proofs.YtdkcgiifldhdeaaDoor
open Go.RowKit
set_option linter.unusedSimpArgs false
set_option linter.unusedVariables false

theorem str_slice (l : List UInt8) (a b : Nat) (x : Int) (hx : x = (a : Int)) (h : a ≤ b) (h2 : b ≤ l.length) (w : World) : (Instr.slice 9 (.string (str l)) (some (.int .i64 x)) (some (.int .i64 (b : Int))) none).run Tryd.prog w = .ok (.string (str ((l.drop a).take (b - a)))) w := by
  subst hx
  have es := slice_str l a (b - a) (by omega)
  rw [show a + (b - a) = b by omega] at es
  have hz : (str l).size = l.length := str_size l
  have b1 : (a : Int) ≤ (b : Int) ∧ (b : Int) ≤ (l.length : Int) := by omega
  rw [← es]
  go_simp
theorem str_from (l : List UInt8) (a : Nat) (h2 : a ≤ l.length) (w : World) : (Instr.slice 9 (.string (str l)) (some (.int .i64 (a : Int))) none none).run Tryd.prog w = .ok (.string (str (l.drop a))) w := by
  have es := drop_str l a l.length rfl
  have hz : (str l).size = l.length := str_size l
  have b1 : (a : Int) ≤ (l.length : Int) := by omega
  rw [← es]
  go_simp
/-- The number that stands behind two signs, up to a semicolon. -/
def NumIs (l : List UInt8) (kind : UInt8) (p : List UInt8) (k : Nat) : Prop :=
  p.length ≤ 4 ∧ k ≤ l.length ∧ ∀ H tail m, l = 92 :: kind :: (H ++ 59 :: tail) → HexAll H → H ≠ [] → hexFold 0 H = m → m < 2147483648 → k = H.length + 3 ∧ (kind = 120 → p = [UInt8.ofNat m]) ∧ (kind = 117 → validRune m → p = pUtf8 m)
theorem hexv59 : hexv 59 = 16 := by decide
theorem semi_at (l H tail : List UInt8) (kind : UInt8) (hk : kind ≠ 59) (h : l = 92 :: kind :: (H ++ 59 :: tail)) (hH : HexAll H) (o : Nat) (h1 : l[o]? = some 59) (h2 : ∀ k, k < o → l[k]? ≠ some 59) : o = H.length + 2 := by
  subst h
  have hat : (92 :: kind :: (H ++ 59 :: tail))[H.length + 2]? = some 59 := by simp
  rcases Nat.lt_trichotomy o (H.length + 2) with hlt | heq | hgt
  · exfalso
    match o, h1, hlt with
    | 0, h1, _ => simp at h1
    | 1, h1, _ => simp at h1; exact hk h1
    | o + 2, h1, hlt =>
      simp only [List.getElem?_cons_succ] at h1
      rw [List.getElem?_append_left (by omega)] at h1
      have := hH 59 (List.mem_of_getElem? h1)
      rw [hexv59] at this; omega
  · exact heq
  · exact absurd hat (h2 _ hgt)
theorem idx_none (l : List UInt8) (h : Lib.indexByte l 59 = -1) (kind : UInt8) (p : List UInt8) (hp : p.length ≤ 4) : NumIs l kind p 0 := by
  refine ⟨hp, Nat.zero_le _, ?_⟩
  intro H tail m hl
  exact absurd (show l[H.length + 2]? = some 59 by rw [hl]; simp) (Lib.indexByte_none h _)
theorem num_err (l : List UInt8) (kind : UInt8) (hk : kind ≠ 59) (o : Nat) (h1 : l[o]? = some 59) (h2 : ∀ k, k < o → l[k]? ≠ some 59)
    (h3 : ¬ (HexAll ((l.drop 2).take (o - 2)) ∧ (l.drop 2).take (o - 2) ≠ [] ∧ hexFold 0 ((l.drop 2).take (o - 2)) < 2147483648)) (p : List UInt8) (hp : p.length ≤ 4) : NumIs l kind p 0 := by
  refine ⟨hp, Nat.zero_le _, ?_⟩
  intro H tail m hl hH hne hm hlt
  exfalso
  have ho := semi_at l H tail kind hk hl hH o h1 h2
  have e : (l.drop 2).take (o - 2) = H := by rw [hl, ho]; simp
  rw [e] at h3
  exact h3 ⟨hH, hne, by omega⟩
theorem num_ok (l : List UInt8) (kind : UInt8) (hk : kind ≠ 59) (o : Nat) (h1 : l[o]? = some 59) (h2 : ∀ k, k < o → l[k]? ≠ some 59) (n : Nat)
    (h3 : HexAll ((l.drop 2).take (o - 2)) → n = hexFold 0 ((l.drop 2).take (o - 2))) (p : List UInt8) (hp : p.length ≤ 4)
    (hx : kind = 120 → p = [UInt8.ofNat n]) (hu : kind = 117 → validRune n → p = pUtf8 n) : NumIs l kind p (o + 1) := by
  have hlt : o < l.length := (List.getElem?_eq_some_iff.1 h1).1
  refine ⟨hp, by omega, ?_⟩
  intro H tail m hl hH hne hm hlt
  have ho := semi_at l H tail kind hk hl hH o h1 h2
  have e : (l.drop 2).take (o - 2) = H := by rw [hl, ho]; simp
  rw [e, hm] at h3
  have := h3 hH
  subst this
  exact ⟨by omega, hx, hu⟩
theorem ofNat_mod (n : Nat) : UInt8.ofNat (n % 256) = UInt8.ofNat n := by
  apply UInt8.toNat.inj; simp
set_option maxHeartbeats 4000000 in
set_option maxRecDepth 100000 in
theorem readNumber_calls (l : List UInt8) (hl : l.length ≤ 1000000000) (h2 : 2 ≤ l.length) (h0 : l.getD 0 0 = 92) (kind : UInt8) (hk : kind = 117 ∨ kind = 120) (h1 : l.getD 1 0 = kind) (w : World) (he : Errs w) :
    Calls Tryd.prog 50 #[.string (str l)] w fun e w' => ∃ p k, e = .returned (.tuple #[.string (str p), .int .i64 ((k : Nat) : Int)]) ∧ NumIs l kind p k ∧ Below w.heap.size w w' := by
  have HE := hide he
  have hk59 : kind ≠ 59 := by rcases hk with rfl | rfl <;> decide
  have hix := str_index l
  have hge := Lib.indexByte_ge l 59
  have ci := fun w => indexByte_calls (str l) 59 w
  rw [str_toList] at ci
  have h59 : ((59 : Int).toNat.toUInt8) = 59 := rfl
  rw [h59] at ci
  clear he
  by_cases hE : Lib.indexByte l 59 = -1
  · have HN := hide (idx_none l hE kind [] (by simp))
    rw [hE] at ci
    clear hE hge
    go_enter Tryd.func50, Tryd.ntmps50
    go_wp2_with fail
    refine (ci _).mono ?_
    rintro e w1 ⟨rfl, rfl⟩
    go_wp2
    go_ret2
    exact ⟨[], 0, rfl, unhide HN, Below.refl _ _⟩
  · obtain ⟨o, ho⟩ : ∃ o : Nat, Lib.indexByte l 59 = (o : Int) := ⟨(Lib.indexByte l 59).toNat, by omega⟩
    obtain ⟨s1, s2⟩ := Lib.indexByte_some ho
    have holt : o < l.length := (List.getElem?_eq_some_iff.1 s1).1
    have ho2 : 2 ≤ o := by
      match o, s1 with
      | 0, s1 => rw [List.getD_eq_getElem?_getD, s1] at h0; cases h0
      | 1, s1 => rw [List.getD_eq_getElem?_getD, s1] at h1; exact absurd h1.symm hk59
      | o + 2, _ => omega
    rw [ho] at ci
    clear hE hge ho
    have es := fun w => str_slice l 2 o 2 rfl ho2 (by omega) w
    obtain ⟨M, hM⟩ : ∃ M, Hid ((l.drop 2).take (o - 2) = M) := ⟨_, hide rfl⟩
    rw [unhide hM] at es
    have hML : M.length ≤ 1000000000 := by rw [← unhide hM, List.length_take, List.length_drop]; omega
    have n3 := num_err l kind hk59 o s1 s2
    have n4 := num_ok l kind hk59 o s1 s2
    rw [unhide hM] at n3 n4
    have N3 := hide n3
    have N4 := hide n4
    have hi1 : ∀ w, (Instr.index 9 (.string (str l)) (.int .i64 1)).run Tryd.prog w = .ok (.int .u8 (kind.toNat : Int)) w := fun w => by rw [← h1]; exact str_index l 1 (by omega) w
    have hz : (str l).size = l.length := str_size l
    clear n3 n4 hix s1 s2 h0 h1 hM
    go_enter Tryd.func50, Tryd.ntmps50
    go_wp2_with fail
    refine (ci _).mono ?_
    rintro e w1 ⟨rfl, rfl⟩
    go_wp2_with fail
    refine (parseUint_calls M hML _ (unhide HE)).mono ?_
    rintro e w2 ⟨r, rfl, hr, hb⟩
    rcases hr with ⟨n, hn, rfl, h3⟩ | ⟨⟨v, N, rfl⟩, h3⟩
    · have H3 := hide h3
      clear h3
      rcases hk with rfl | rfl
      · rw [show (((117 : UInt8).toNat : Nat) : Int) = 117 from rfl] at hi1
        have hs := utf8_size (n : Int)
        have hu := utf8_str n
        obtain ⟨p, hp⟩ : ∃ p, Hid (Utf8.encode (n : Int) = str p) := ⟨_, hide (str_list _).symm⟩
        rw [unhide hp] at hs hu
        rw [str_toList] at hs
        have HN := hide (unhide N4 n (unhide H3) p hs (fun h => by cases h) (fun _ hv => str_inj (hu hv)))
        clear H3 N3 N4 hu
        have m1 : (n : Int) % 4294967296 = (n : Int) := by omega
        go_wp2
        go_ret2
        exact ⟨p, o + 1, by rw [unhide hp, Int.natCast_add]; rfl, unhide HN, hb⟩
      · rw [show (((120 : UInt8).toNat : Nat) : Int) = 120 from rfl] at hi1
        have hcv := one_conv w2 (n % 256) (by omega)
        rw [ofNat_mod] at hcv
        have HN := hide (unhide N4 n (unhide H3) [UInt8.ofNat n] (by simp) (fun _ => rfl) (fun h => by cases h))
        clear H3 N3 N4
        have m1 : (n : Int) % 256 = ((n % 256 : Nat) : Int) := by omega
        generalize n % 256 = z at *
        generalize UInt8.ofNat n = y at *
        go_wp2
        go_ret2
        exact ⟨[y], o + 1, by rw [Int.natCast_add]; rfl, unhide HN, hb.alloc (Nat.le_trans hb.size (Nat.le_refl _)) _⟩
    · have HN := hide (unhide N3 h3 [] (by simp))
      clear h3 N3 N4
      go_wp2
      go_ret2
      exact ⟨[], 0, rfl, unhide HN, hb⟩
theorem piece_of_num (l p : List UInt8) (kind : UInt8) (hk : kind = 117 ∨ kind = 120) (k : Nat) (h0 : l.getD 0 0 = 92) (h1 : l.getD 1 0 = kind) (h2 : 2 ≤ l.length) (h : NumIs l kind p k) : PieceIs l p k := by
  refine ⟨h.1, h.2.1, ?_⟩
  intro n tail hn hl
  rcases qNum_cases n hn with ⟨b, hb, e1, e2⟩ | ⟨b, hb, e1, e2⟩ | ⟨H, m, a1, a2, a3, a4, a5, e1, e2⟩ | ⟨H, m, a1, a2, a3, a4, a5, e1, e2⟩
  · exfalso
    rw [hl, e1] at h1
    simp at h1
    rcases hb with rfl | rfl <;> rcases hk with rfl | rfl <;> simp at h1
  · exfalso
    rw [hl, e1] at h0
    simp at h0
    exact hb h0
  · rw [e1] at hl
    have hkd : kind = 117 := by rw [hl] at h1; simpa using h1.symm
    obtain ⟨r1, r2, r3⟩ := h.2.2 H tail m (by rw [hl, hkd]; simp) a1 a2 a4 (by unfold validRune at a5; omega)
    refine ⟨(r3 hkd a5).trans e2.symm, ?_⟩
    rw [r1, e1]; simp
  · rw [e1] at hl
    have hkd : kind = 120 := by rw [hl] at h1; simpa using h1.symm
    obtain ⟨r1, r2, r3⟩ := h.2.2 H tail m (by rw [hl, hkd]; simp) a1 a2 a4 (by omega)
    refine ⟨(r2 hkd).trans e2.symm, ?_⟩
    rw [r1, e1]; simp
theorem piece_plain (l : List UInt8) (hne : l ≠ []) (h0 : l.getD 0 0 ≠ 92) : PieceIs l (l.take 1) 1 := by
  have hl0 : 0 < l.length := List.length_pos_iff.2 hne
  refine ⟨by rw [List.length_take]; omega, by omega, ?_⟩
  intro n tail hn hl
  rcases qNum_cases n hn with ⟨b, hb, e1, e2⟩ | ⟨b, hb, e1, e2⟩ | ⟨H, m, a1, a2, a3, a4, a5, e1, e2⟩ | ⟨H, m, a1, a2, a3, a4, a5, e1, e2⟩
  · rw [hl, e1] at h0; simp at h0
  · rw [e1, e2]; rw [e1] at hl; rw [hl]; simp
  · rw [hl, e1] at h0; simp at h0
  · rw [hl, e1] at h0; simp at h0
theorem piece_two (l : List UInt8) (h2 : 2 ≤ l.length) (h0 : l.getD 0 0 = 92) (h1 : l.getD 1 0 = 34 ∨ l.getD 1 0 = 92) : PieceIs l ((l.drop 1).take 1) 2 := by
  refine ⟨by rw [List.length_take]; omega, h2, ?_⟩
  intro n tail hn hl
  rcases qNum_cases n hn with ⟨b, hb, e1, e2⟩ | ⟨b, hb, e1, e2⟩ | ⟨H, m, a1, a2, a3, a4, a5, e1, e2⟩ | ⟨H, m, a1, a2, a3, a4, a5, e1, e2⟩
  · rw [e1, e2]; rw [e1] at hl; rw [hl]; simp
  · exfalso
    rw [hl, e1] at h0
    simp at h0
    exact hb h0
  · exfalso; rw [hl, e1] at h1; simp at h1
  · exfalso; rw [hl, e1] at h1; simp at h1
theorem piece_none (l : List UInt8) (h0 : l.getD 0 0 = 92) (h1 : l.length = 1 ∨ (l.getD 1 0 ≠ 34 ∧ l.getD 1 0 ≠ 92 ∧ l.getD 1 0 ≠ 117 ∧ l.getD 1 0 ≠ 120)) : PieceIs l [] 0 := by
  refine ⟨by simp, by omega, ?_⟩
  intro n tail hn hl
  exfalso
  rcases qNum_cases n hn with ⟨b, hb, e1, e2⟩ | ⟨b, hb, e1, e2⟩ | ⟨H, m, a1, a2, a3, a4, a5, e1, e2⟩ | ⟨H, m, a1, a2, a3, a4, a5, e1, e2⟩
  · rcases h1 with h1 | h1
    · rw [hl, e1] at h1; simp at h1
    · rw [hl, e1] at h1; simp at h1; rcases hb with rfl | rfl <;> simp at h1
  · rw [hl, e1] at h0
    simp at h0
    exact hb h0
  · rcases h1 with h1 | h1
    · rw [hl, e1] at h1; simp at h1
    · rw [hl, e1] at h1; simp at h1
  · rcases h1 with h1 | h1
    · rw [hl, e1] at h1; simp at h1
    · rw [hl, e1] at h1; simp at h1
theorem u8_eq (b : UInt8) (n : Nat) (hn : n < 256) : ((b.toNat : Int) == (n : Int)) = decide (b = UInt8.ofNat n) := by
  rw [Bool.eq_iff_iff]; simp only [beq_iff_eq, decide_eq_true_eq]
  constructor
  · intro h; apply UInt8.toNat.inj; rw [UInt8.toNat_ofNat_of_lt' hn]; omega
  · intro h; rw [h, UInt8.toNat_ofNat_of_lt' hn]
set_option maxHeartbeats 4000000 in
set_option maxRecDepth 100000 in
theorem readPiece_calls (l : List UInt8) (hl : l.length ≤ 1000000000) (hne : l ≠ []) (w : World) (he : Errs w) :
    Calls Tryd.prog 38 #[.string (str l)] w fun e w' => ∃ p k, e = .returned (.tuple #[.string (str p), .int .i64 ((k : Nat) : Int)]) ∧ PieceIs l p k ∧ Below w.heap.size w w' := by
  have HE := hide he
  have hl0 : 0 < l.length := List.length_pos_iff.2 hne
  have hi0 : ∀ w, (Instr.index 9 (.string (str l)) (.int .i64 0)).run Tryd.prog w = .ok (.int .u8 ((l.getD 0 0).toNat : Int)) w := fun w => str_index l 0 (by omega) w
  have t0 := u8_eq (l.getD 0 0) 92 (by omega)
  clear he
  by_cases c0 : l.getD 0 0 = 92
  · have q0 : (((l.getD 0 0).toNat : Int) == 92) = true := by rw [c0]; rfl
    clear t0
    by_cases c1 : l.length = 1
    · have HN := hide (piece_none l c0 (.inl c1))
      have hz : (str l).size = 1 := by rw [str_size, c1]
      generalize l.getD 0 0 = b0 at *
      clear c0 c1 hl0
      go_enter Tryd.func38, Tryd.ntmps38
      go_wp2
      go_ret2
      exact ⟨[], 0, rfl, unhide HN, Below.refl _ _⟩
    · have hi1 : ∀ w, (Instr.index 9 (.string (str l)) (.int .i64 1)).run Tryd.prog w = .ok (.int .u8 ((l.getD 1 0).toNat : Int)) w := fun w => str_index l 1 (by omega) w
      have hz : (str l).size = l.length := str_size l
      have hzz : ((l.length : Int) == 1) = false := by simp; omega
      have a1 := u8_eq (l.getD 1 0) 34 (by omega)
      have a2 := u8_eq (l.getD 1 0) 92 (by omega)
      have a3 := u8_eq (l.getD 1 0) 117 (by omega)
      have a4 := u8_eq (l.getD 1 0) 120 (by omega)
      by_cases c2 : l.getD 1 0 = 34 ∨ l.getD 1 0 = 92
      · have HN := hide (piece_two l (by omega) c0 c2)
        have es := fun w => str_slice l 1 2 1 rfl (by omega) (by omega) w
        have q1 : (((l.getD 1 0).toNat : Int) == 34) = true ∨ ((((l.getD 1 0).toNat : Int) == 34) = false ∧ (((l.getD 1 0).toNat : Int) == 92) = true) := by
          rcases c2 with c2 | c2
          · left; rw [c2]; rfl
          · right; rw [c2]; exact ⟨rfl, rfl⟩
        generalize l.getD 0 0 = b0 at *
        generalize l.getD 1 0 = b1 at *
        obtain ⟨M, hM⟩ : ∃ M, Hid ((l.drop 1).take (2 - 1) = M) := ⟨_, hide rfl⟩
        have es' : ∀ w, (Instr.slice 9 (.string (str l)) (some (.int .i64 1)) (some (.int .i64 2)) none).run Tryd.prog w = .ok (.string (str M)) w := fun w => by rw [← unhide hM]; exact es w
        have HN2 : Hid (PieceIs l M 2) := by rw [← unhide hM]; exact HN
        clear c0 c2 c1 a1 a2 a3 a4 es HN
        rcases q1 with q1 | ⟨q1, q2⟩
        · go_enter Tryd.func38, Tryd.ntmps38
          go_wp2
          go_ret2
          exact ⟨M, 2, rfl, unhide HN2, Below.refl _ _⟩
        · go_enter Tryd.func38, Tryd.ntmps38
          go_wp2
          go_ret2
          exact ⟨M, 2, rfl, unhide HN2, Below.refl _ _⟩
      · have q1 : (((l.getD 1 0).toNat : Int) == 34) = false := by
          refine a1.trans (decide_eq_false ?_); intro h; exact c2 (.inl h)
        have q2 : (((l.getD 1 0).toNat : Int) == 92) = false := by
          refine a2.trans (decide_eq_false ?_); intro h; exact c2 (.inr h)
        by_cases c3 : l.getD 1 0 = 117 ∨ l.getD 1 0 = 120
        · have q3 : (((l.getD 1 0).toNat : Int) == 117) = true ∨ ((((l.getD 1 0).toNat : Int) == 117) = false ∧ (((l.getD 1 0).toNat : Int) == 120) = true) := by
            rcases c3 with c3 | c3
            · left; rw [c3]; rfl
            · right; rw [c3]; exact ⟨rfl, rfl⟩
          have cN := fun w hE => readNumber_calls l hl (by omega) c0 _ c3 rfl w hE
          have hP := fun p k => piece_of_num l p _ c3 k c0 rfl (by omega)
          have HP := hide hP
          have CN := hide cN
          generalize l.getD 0 0 = b0 at *
          generalize l.getD 1 0 = b1 at *
          clear c0 c2 c1 a1 a2 a3 a4 hP cN c3
          rcases q3 with q3 | ⟨q3, q4⟩
          · go_enter Tryd.func38, Tryd.ntmps38
            go_wp2_with fail
            refine (unhide CN _ (unhide HE)).mono ?_
            rintro e w1 ⟨p, k, rfl, hn, hb⟩
            have HN := hide (unhide HP p k hn)
            clear hn
            go_wp2
            go_ret2
            exact ⟨p, k, rfl, unhide HN, hb⟩
          · go_enter Tryd.func38, Tryd.ntmps38
            go_wp2_with fail
            refine (unhide CN _ (unhide HE)).mono ?_
            rintro e w1 ⟨p, k, rfl, hn, hb⟩
            have HN := hide (unhide HP p k hn)
            clear hn
            go_wp2
            go_ret2
            exact ⟨p, k, rfl, unhide HN, hb⟩
        · have HN := hide (piece_none l c0 (.inr ⟨fun h => c2 (.inl h), fun h => c2 (.inr h), fun h => c3 (.inl h), fun h => c3 (.inr h)⟩))
          have q3 : (((l.getD 1 0).toNat : Int) == 117) = false := by
            refine a3.trans (decide_eq_false ?_); intro h; exact c3 (.inl h)
          have q4 : (((l.getD 1 0).toNat : Int) == 120) = false := by
            refine a4.trans (decide_eq_false ?_); intro h; exact c3 (.inr h)
          generalize l.getD 0 0 = b0 at *
          generalize l.getD 1 0 = b1 at *
          clear c0 c2 c1 a1 a2 a3 a4 c3
          go_enter Tryd.func38, Tryd.ntmps38
          go_wp2
          go_ret2
          exact ⟨[], 0, rfl, unhide HN, Below.refl _ _⟩
  · have q0 : (((l.getD 0 0).toNat : Int) == 92) = false := t0.trans (decide_eq_false c0)
    have HN := hide (piece_plain l hne c0)
    have es : ∀ w, (Instr.slice 9 (.string (str l)) none (some (.int .i64 1)) none).run Tryd.prog w = .ok (.string (str (l.take 1))) w := fun w => by
      have es := take_str l 1
      have hz : (str l).size = l.length := str_size l
      have b1 : (1 : Int) ≤ (l.length : Int) := by omega
      rw [← es]
      go_simp
    generalize l.getD 0 0 = b0 at *
    generalize l.take 1 = M at *
    clear c0 t0
    go_enter Tryd.func38, Tryd.ntmps38
    go_wp2
    go_ret2
    exact ⟨M, 1, rfl, unhide HN, Below.refl _ _⟩
end Go.Proofs.YtdkcgiifldhdeaaDoor
