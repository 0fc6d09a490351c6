/-
  THE WALK OF THE LAW NameBack: whatever the two texts, it returns true, and nothing that was there has turned.
-/
import Derived.Test.YtdkcgiifldhdeaaDoorLawNameQuotes
namespace Go.Proofs.YtdkcgiifldhdeaaDoor
open Go.RowKit
set_option linter.unusedSimpArgs false
set_option linter.unusedVariables false

theorem hexd_plain : ∀ d : Nat, d < 16 → 32 ≤ (hexd d).toNat ∧ (hexd d).toNat ≤ 126 := by decide
theorem pHex_plain (n : Nat) (c : UInt8) (h : c ∈ pHex n) : 32 ≤ c.toNat ∧ c.toNat ≤ 126 := by
  obtain ⟨d, hd, rfl⟩ := pHex_mem n c h
  exact hexd_plain d hd
theorem qNum_form (n : Nat) : (∃ b : UInt8, (b = 34 ∨ b = 92) ∧ qNum n = [92, b]) ∨ (∃ b : UInt8, (32 ≤ b.toNat ∧ b.toNat ≤ 126) ∧ qNum n = [b]) ∨ ∃ (k : UInt8) (m : Nat), (k = 117 ∨ k = 120) ∧ qNum n = [92, k] ++ pHex m ++ [59] := by
  by_cases c1 : n = 34 ∨ n = 92
  · have e : qNum n = [92, UInt8.ofNat n] := by unfold qNum; rw [if_pos c1]
    left
    refine ⟨_, ?_, e⟩
    rcases c1 with rfl | rfl
    · exact .inl rfl
    · exact .inr rfl
  · by_cases c2 : 32 ≤ n ∧ n ≤ 126
    · have e : qNum n = [UInt8.ofNat n] := by unfold qNum; rw [if_neg c1, if_pos c2]
      have hn : (UInt8.ofNat n).toNat = n := UInt8.toNat_ofNat_of_lt' (by omega : n < 256)
      right; left
      exact ⟨_, by rw [hn]; exact c2, e⟩
    · right; right
      by_cases c3 : 2000000 ≤ n
      · have e : qNum n = [92, 120] ++ pHex (n - 2000000) ++ [59] := by unfold qNum; rw [if_neg c1, if_neg c2, if_pos c3]
        generalize n - 2000000 = z at *
        exact ⟨120, z, .inr rfl, e⟩
      · have e : qNum n = [92, 117] ++ pHex n ++ [59] := by unfold qNum; rw [if_neg c1, if_neg c2, if_neg c3]
        exact ⟨117, n, .inl rfl, e⟩
theorem qNum_plain (n : Nat) (c : UInt8) (h : c ∈ qNum n) : 32 ≤ c.toNat ∧ c.toNat ≤ 126 := by
  rcases qNum_form n with ⟨b, hb, e⟩ | ⟨b, hb, e⟩ | ⟨k, m, hk, e⟩
  · rw [e] at h
    simp at h
    rcases h with rfl | rfl
    · decide
    · rcases hb with rfl | rfl <;> decide
  · rw [e] at h
    simp at h
    subst h
    exact hb
  · have hh := pHex_plain m c
    rw [e] at h
    simp at h
    rcases h with rfl | rfl | h | rfl
    · decide
    · rcases hk with rfl | rfl <;> decide
    · exact hh h
    · decide
theorem quote_plain (t : List UInt8) (c : UInt8) (h : c ∈ pQuote t) : 32 ≤ c.toNat ∧ c.toNat ≤ 126 := by
  rw [pQuote_nums] at h
  simp at h
  rcases h with rfl | ⟨n, _, h⟩ | rfl
  · decide
  · exact qNum_plain n c h
  · decide
theorem quote_len (t : List UInt8) : (pQuote t).length ≤ 2 + 12 * t.length := by
  have h1 := nums_le t
  have h2 := qNums_len (nums t)
  rw [pQuote_nums]
  simp only [List.length_cons, List.length_append, List.length_nil]
  omega
theorem unq_of_quote {s r : List UInt8} {ok : Bool} (h : UnqIs (pQuote s) r ok) : ok = true ∧ r = s ∧ ∀ t, pQuote t = pQuote s → t = s := by
  rcases h with ⟨rfl, h1, h2⟩ | ⟨rfl, h1, h2⟩
  · have := h2 s rfl
    subst this
    exact ⟨rfl, rfl, h2⟩
  · exact absurd rfl (h2 s)
theorem flat_len (f : Nat → List UInt8) (k : Nat) (hk : ∀ n, (f n).length ≤ k) : ∀ xs : List Nat, (xs.flatMap f).length ≤ k * xs.length
  | [] => by simp
  | x :: xs => by
    have h1 := hk x
    have h2 := flat_len f k hk xs
    rw [List.flatMap_cons, List.length_append, List.length_cons, Nat.mul_succ]; omega
theorem flat_ge (f : Nat → List UInt8) : ∀ xs : List Nat, (∀ n ∈ xs, 0 < (f n).length) → xs.length ≤ (xs.flatMap f).length
  | [], _ => by simp
  | x :: xs, h => by
    have h1 := h x (by simp)
    have h2 := flat_ge f xs fun n hn => h n (by simp [hn])
    rw [List.flatMap_cons, List.length_append, List.length_cons]; omega
theorem numBytes_len (n : Nat) : (numBytes n).length ≤ 4 := by
  unfold numBytes
  by_cases c : 2000000 ≤ n
  · rw [if_pos c]; simp
  · rw [if_neg c]; exact (pUtf8_len n).2
theorem unq_len (u : List UInt8) : u.length ≤ 4 * (pQuote u).length := by
  obtain ⟨e1, e2⟩ := flat_nums _ u (Nat.le_refl _)
  have h1 := flat_len numBytes 4 numBytes_len (nums u)
  have h2 := flat_ge qNum (nums u) fun n hn => qNum_pos n (e2 n hn)
  rw [e1] at h1
  rw [pQuote_nums]
  simp only [List.length_cons, List.length_append, List.length_nil]
  omega
theorem str_cmp (l m : List UInt8) : ((str l).toList == (str m).toList) = decide (l = m) := by
  rw [ByteArray.toList_eq, ByteArray.toList_eq, str_toList, str_toList]
  rw [Bool.eq_iff_iff]; simp
set_option maxHeartbeats 4000000 in
set_option maxRecDepth 100000 in
theorem nameBack_walk (a b : List UInt8) (ha : a.length ≤ maxLen) (hb : b.length ≤ maxLen) (w : World) (tab : Tab16 w) (er : Errs w) :
    Calls Tryd.prog 6 #[.string (str a), .string (str b)] w fun e w' => e = .returned (.bool true) ∧ Below w.heap.size w w' := by
  unfold maxLen at ha hb
  have HT := hide tab
  have HE := hide er
  clear tab er
  by_cases hok : a.length ≤ 2000 ∧ b.length ≤ 2000
  · have d1 : decide ((2000 : Int) < (a.length : Int)) = false := by simp; omega
    have d2 : decide ((2000 : Int) < (b.length : Int)) = false := by simp; omega
    have hql := quote_len a
    have hq3 : (pQuote a).length ≤ 30000 := by omega
    have hb2k : b.length ≤ 2000 := hok.2
    have cu := fun w hE hT => unquote_calls (pQuote a) (by omega) w hE hT
    have cv := fun w hE hT => unquote_calls b (by omega) w hE hT
    have cq := fun w hT => quote_calls a (by omega) w hT
    have cb := fun w hT => quote_calls b (by omega) w hT
    have hpl := quote_plain a
    have hinj := fun r ok => unq_of_quote (s := a) (r := r) (ok := ok)
    have hix := str_index (pQuote a)
    have hz : (str (pQuote a)).size = (pQuote a).length := str_size _
    have hcm := str_cmp a b
    have hcq := str_cmp (pQuote a) (pQuote b)
    have hba : pQuote b = pQuote a → a = b → True := fun _ _ => trivial
    have haq : a = b → pQuote a = pQuote b := fun h => by rw [h]
    generalize pQuote a = F at *
    generalize hG : pQuote b = G at *
    have HG := hide hG
    have Cu := hide cu
    have Cv := hide cv
    have Cq := hide cq
    have Cb := hide cb
    have HP := hide hpl
    have HI := hide hinj
    have HX := hide hix
    have HA := hide haq
    have HM := hide hcm
    have HQ := hide hcq
    clear cu cv cq cb hok hpl hinj hix haq hba hcm hcq hG
    go_enter Tryd.func6, Tryd.ntmps6
    go_wp2_with fail
    refine (nawake_calls _ (unhide HT)).mono ?_
    rintro en w1 ⟨rfl, b1⟩
    go_wp2_with fail
    refine (unhide Cq _ ((unhide HT).below' b1)).mono ?_
    rintro en w2 ⟨rfl, hb2⟩
    have b2 := b1.trans (hb2.mono b1.size)
    clear hb2 b1
    go_wp2_with fail
    refine (unhide Cu _ ((unhide HE).below' b2) ((unhide HT).below' b2)).mono ?_
    rintro en w3 ⟨r, ok, rfl, u1, hb3⟩
    have b3 := b2.trans (hb3.mono b2.size)
    obtain ⟨rfl, rfl, hin⟩ := unhide HI r ok u1
    have HIN := hide hin
    clear hb3 b2 u1 HI hin
    go_wp2
    go_loopw [8, 31] (fun _ i wr => ∃ j : Nat, j ≤ F.length ∧ i = .int .i64 (j : Int) ∧ wr = w3) (fun _ i _ => F.length - (intOf i).toNat)
    case atStart => exact ⟨0, by omega, rfl, rfl⟩
    case round =>
      obtain ⟨j, hj, rfl, rfl⟩ := hrel
      by_cases hlt : j < F.length
      · have hd : decide (j < F.length) = true := by simpa using hlt
        have hi := unhide HX j hlt
        have hmem : F.getD j 0 ∈ F := by rw [List.getD_eq_getElem?_getD, List.getElem?_eq_getElem hlt]; exact List.getElem_mem _
        have hp := unhide HP _ hmem
        generalize (F.getD j 0).toNat = x at *
        have g1 : decide ((x : Int) < 32) = false := by simp; omega
        have g2 : decide ((126 : Int) < (x : Int)) = false := by simp; omega
        clear hp hmem
        go_wp2
        go_roundw
        case rel => exact ⟨j + 1, by omega, by go_num, trivial⟩
        case measure => simp [intOf]; omega
      · have hd : decide (j < F.length) = false := by simpa using hlt
        go_wp2_with fail
        refine (unhide Cv _ ((unhide HE).below' b3) ((unhide HT).below' b3)).mono ?_
        rintro en w4 ⟨u, is, rfl, u2, hb4⟩
        have b4 := b3.trans (hb4.mono b3.size)
        clear hb4 b3
        go_wp2_with fail
        refine (nawake_calls _ ((unhide HT).below' b4)).mono ?_
        rintro en w5 ⟨rfl, hb5⟩
        have b5 := b4.trans (hb5.mono b4.size)
        clear hb5 b4
        have e0 : ((str r).toList == (str r).toList) = true := by simp
        have hcmp : (((str F).toList == (str G).toList) = true ∧ ((str r).toList == (str b).toList) = true) ∨ (((str F).toList == (str G).toList) = false ∧ ((str r).toList == (str b).toList) = false) := by
          rw [unhide HQ, unhide HM]
          by_cases hr : r = b
          · left; exact ⟨decide_eq_true (unhide HA hr), decide_eq_true hr⟩
          · right; exact ⟨decide_eq_false fun h => hr (unhide HIN b ((unhide HG).trans h.symm)).symm, decide_eq_false hr⟩
        have HC := hide hcmp
        rcases u2 with ⟨rfl, h1, _⟩ | ⟨rfl, rfl, _⟩
        · have hul := unq_len u
          rw [h1] at hul
          have cu2 := fun w hT => quote_calls u (by omega) w hT
          rw [h1] at cu2
          have e1 : ((str b).toList == (str b).toList) = true := by simp
          have CU2 := hide cu2
          clear h1 hul cu2 hcmp
          go_wp2_with fail
          refine (unhide CU2 _ ((unhide HT).below' b5)).mono ?_
          rintro en w6 ⟨rfl, hb6⟩
          have b6 := b5.trans (hb6.mono b5.size)
          clear hb6 b5
          go_wp2_with fail
          refine (unhide Cq _ ((unhide HT).below' b6)).mono ?_
          rintro en w7 ⟨rfl, hb7⟩
          have b7 := b6.trans (hb7.mono b6.size)
          clear hb7 b6
          go_wp2_with fail
          refine (unhide Cb _ ((unhide HT).below' b7)).mono ?_
          rintro en w8 ⟨rfl, hb8⟩
          have b8 := b7.trans (hb8.mono b7.size)
          rcases unhide HC with ⟨c1, c2⟩ | ⟨c1, c2⟩
          · go_wp2
            go_ret
            exact ⟨rfl, b8⟩
          · go_wp2
            go_ret
            exact ⟨rfl, b8⟩
        · clear hcmp
          go_wp2_with fail
          refine (unhide Cq _ ((unhide HT).below' b5)).mono ?_
          rintro en w7 ⟨rfl, hb7⟩
          have b7 := b5.trans (hb7.mono b5.size)
          clear hb7 b5
          go_wp2_with fail
          refine (unhide Cb _ ((unhide HT).below' b7)).mono ?_
          rintro en w8 ⟨rfl, hb8⟩
          have b8 := b7.trans (hb8.mono b7.size)
          rcases unhide HC with ⟨c1, c2⟩ | ⟨c1, c2⟩
          · go_wp2
            go_ret
            exact ⟨rfl, b8⟩
          · go_wp2
            go_ret
            exact ⟨rfl, b8⟩
  · have hds : Hid ((decide ((2000 : Int) < (a.length : Int)) || decide ((2000 : Int) < (b.length : Int))) = true) := by
      show _ = true
      simp only [Bool.or_eq_true, decide_eq_true_eq]
      omega
    clear hok
    go_enter Tryd.func6, Tryd.ntmps6
    go_wp2_with fail
    refine (nawake_calls _ (unhide HT)).mono ?_
    rintro en w1 ⟨rfl, b1⟩
    cases d1 : decide ((2000 : Int) < (a.length : Int)) with
    | true =>
      go_wp2_with fail
      refine (nawake_calls _ ((unhide HT).below' b1)).mono ?_
      rintro en w2 ⟨rfl, hb2⟩
      go_wp2
      go_ret
      exact ⟨rfl, b1.trans (hb2.mono b1.size)⟩
    | false =>
    have d2 : decide ((2000 : Int) < (b.length : Int)) = true := by
      have := unhide hds
      rw [d1] at this
      simpa using this
    go_wp2_with fail
    refine (nawake_calls _ ((unhide HT).below' b1)).mono ?_
    rintro en w2 ⟨rfl, hb2⟩
    go_wp2
    go_ret
    exact ⟨rfl, b1.trans (hb2.mono b1.size)⟩
end Go.Proofs.YtdkcgiifldhdeaaDoor
