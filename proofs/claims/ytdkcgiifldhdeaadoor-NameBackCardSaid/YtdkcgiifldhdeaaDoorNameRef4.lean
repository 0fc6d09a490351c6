/-
  WHAT THE DOCUMENT'S OWN Fold OF LAYER 2 RETURNS: what name's own answers.
-/
import Derived.Test.YtdkcgiifldhdeaaDoorNameRef2
import Derived.Test.YtdkcgiifldhdeaaDoorBufB
namespace Go.Proofs.YtdkcgiifldhdeaaDoor
open Go.RowKit
set_option linter.unusedSimpArgs false
set_option linter.unusedVariables false

theorem foldTok_num (l : List UInt8) (t : Tok) (h : t ∈ tk l) : foldTok t = if pCapital (tokNum t) then (some (tokNum t + 32), Lib.encodeRune ((tokNum t : Int) + 32)) else t := by
  rcases tk_mem l t h with ⟨r, h1, h2⟩ | ⟨b, rfl⟩
  · rw [tokNum_some t r h1]
    obtain ⟨o, bs⟩ := t
    simp only at h1
    subst h1
    by_cases hc : pCapital r = true <;> simp [foldTok, hc]
  · rw [tokNum_none]
    have hb := b.toNat_lt
    have : pCapital (2000000 + b.toNat) = false := by simp [pCapital]; omega
    rw [if_neg (by rw [this]; exact Bool.false_ne_true)]; rfl
theorem slice_str (l : List UInt8) (a k : Nat) (h : a + k ≤ l.length) : (str l).extract a (a + k) = str ((l.drop a).take k) := by
  apply ByteArray.ext
  simp [str]
theorem enc1 (n : Nat) (h : 65 ≤ n ∧ n ≤ 90) : Lib.encodeRune ((n : Int) + 32) = [UInt8.ofNat (n + 32)] := by
  unfold Lib.encodeRune
  rw [Lib.encodeRuneZ_one (by omega) (by omega)]
  simp only [List.map_cons, List.map_nil]
  congr 1
theorem enc2 (n : Nat) (h : 913 ≤ n ∧ n ≤ 937) : Lib.encodeRune ((n : Int) + 32) = [UInt8.ofNat (192 + (n + 32) / 64), UInt8.ofNat (128 + (n + 32) % 64)] := by
  unfold Lib.encodeRune
  rw [Lib.encodeRuneZ_two (by omega) (by omega)]
  simp only [List.map_cons, List.map_nil]
  congr 1
theorem ofNat_small (n : Nat) (h : n < 256) : ((n : Nat) : Int) = ((UInt8.ofNat n).toNat : Int) := by
  rw [UInt8.toNat_ofNat']; omega
set_option maxRecDepth 100000 in
set_option maxHeartbeats 4000000 in
theorem rfold_calls (l : List UInt8) (hl : l.length ≤ 1000000000) (w : World) :
    Calls Tryd.prog 17 #[.string (str l)] w fun e w' => e = .returned (.string (str (pFold l))) ∧ Below w.heap.size w w' := by
  have hone := fun a ha w => one_calls l (by omega) a ha w
  have Hone := hide hone
  have hsz : (str l).size = l.length := str_size l
  rw [pFold_tok]
  generalize hF : flat ((tk l).map foldTok) = F
  have HF := hide hF
  clear hone hF
  go_enter Tryd.func17, Tryd.ntmps17
  go_wp2
  go_loopw [3, 4] (fun v i wr => ∃ (pos : Nat) (dn : List Tok) (acc : List UInt8), pos ≤ l.length ∧ i = .int .i64 (pos : Int) ∧ Hid (tk l = dn ++ tk (l.drop pos)) ∧ acc.length ≤ 4 * pos ∧ Hid (acc = flat (dn.map foldTok)) ∧ Buf w w.heap.size acc v wr) (fun _ i _ => l.length - (intOf i).toNat)
  case atStart => exact ⟨0, [], [], by omega, rfl, by show tk l = _; simp, by simp, rfl, ⟨World.ownsRowF_nil _ _ _ _, Below.refl _ _, Nat.le_refl _⟩⟩
  case round =>
    obtain ⟨pos, dn, acc, hp, rfl, hT, hal, hA, hB⟩ := hrel
    by_cases hlt : pos < l.length
    · have hd : decide (pos < l.length) = true := by simpa using hlt
      have hne : l.drop pos ≠ [] := by simp; omega
      have hT2 : tk l = (dn ++ [headTok (l.drop pos)]) ++ tk (l.drop (pos + (Lib.decodeL (l.drop pos)).2)) := by
        rw [unhide hT, tk_cons _ hne, List.drop_drop]; simp
      have hmem : headTok (l.drop pos) ∈ tk l := by rw [hT2]; simp
      have hfn := foldTok_num l _ hmem
      have hnl := (tokNum_lt l _ hmem).2
      have hw1 := Lib.decodeL_width (l.drop pos)
      have hw2 := Lib.decodeL_le (l.drop pos) hne
      rw [List.length_drop] at hw2
      have hht2 : (headTok (l.drop pos)).2 = (l.drop pos).take (Lib.decodeL (l.drop pos)).2 := rfl
      have hO := unhide Hone pos hlt
      unfold OneIs at hO
      have hA2 : flat ((dn ++ [headTok (l.drop pos)]).map foldTok) = acc ++ (foldTok (headTok (l.drop pos))).2 := by
        rw [unhide hA, List.map_append, flat_append]; simp
      generalize hwd : (Lib.decodeL (l.drop pos)).2 = wd at *
      generalize hht : headTok (l.drop pos) = ht at *
      generalize tokNum ht = N at *
      have HO := hide hO
      have HT2 := hide hT2
      have HA2 := hide hA2
      clear hO hT2 hA2 hwd hht hT hne hmem hA
      by_cases h1 : 65 ≤ N ∧ N ≤ 90
      · have hcap : pCapital N = true := by simp [pCapital]; omega
        rw [if_pos hcap] at hfn
        have hby : (foldTok ht).2 = [UInt8.ofNat (N + 32)] := by simp only [hfn, enc1 N h1]
        have Hby := hide hby
        have e1 : decide ((65 : Int) ≤ (N : Int)) = true := by simp; omega
        have e2 : decide ((N : Int) ≤ 90) = true := by simp; omega
        have hcv : (N : Int) + 32 = ((UInt8.ofNat (N + 32)).toNat : Int) := by rw [← ofNat_small (N + 32) (by omega)]; omega
        have Hcv := hide hcv
        clear hfn hby hcv hht2
        go_wp2_with fail
        refine (unhide HO _).mono ?_
        rintro e w' ⟨rfl, rfl⟩
        go_wp2_with (at_builtin; refine wpList_append_b rfl (.tmp 24) (.tmp 28) rfl w w.heap.size acc _ rfl w' _ (UInt8.ofNat (N + 32)) (unhide Hcv) hB rfl (by omega) ?_; intro g2 cap2 w2 hB2)
        go_roundw
        case rel => exact ⟨pos + wd, dn ++ [ht], acc ++ [UInt8.ofNat (N + 32)], by omega, by go_num, HT2, by simp; omega, by show _ = _; rw [unhide HA2, unhide Hby], hB2⟩
        case measure => simp [intOf]; omega
      · have e1 : (decide ((65 : Int) ≤ (N : Int)) && decide ((N : Int) ≤ 90)) = false := by
          rw [Bool.and_eq_false_iff, decide_eq_false_iff_not, decide_eq_false_iff_not]; omega
        by_cases h2 : (913 ≤ N ∧ N ≤ 937) ∧ N ≠ 930
        · have hcap : pCapital N = true := by simp [pCapital]; omega
          rw [if_pos hcap] at hfn
          have hby : (foldTok ht).2 = [UInt8.ofNat (192 + (N + 32) / 64), UInt8.ofNat (128 + (N + 32) % 64)] := by simp only [hfn, enc2 N h2.1]
          have Hby := hide hby
          have f0 : decide ((65 : Int) ≤ (N : Int)) = true := by simp; omega
          have f1 : decide ((N : Int) ≤ 90) = false := by simp; omega
          have f2 : decide ((913 : Int) ≤ (N : Int)) = true := by simp; omega
          have f3 : decide ((N : Int) ≤ 937) = true := by simp; omega
          have f4 : ((N : Int) != 930) = true := by simp; omega
          obtain ⟨q1, hq1, eq1⟩ : ∃ q1 : Nat, Hid (192 + (N + 32) / 64 = q1) ∧ (192 : Int) + ((N : Int) + 32) / 64 = (q1 : Int) := ⟨_, rfl, by omega⟩
          obtain ⟨q2, hq2, eq2⟩ : ∃ q2 : Nat, Hid (128 + (N + 32) % 64 = q2) ∧ (128 : Int) + ((N : Int) + 32) % 64 = (q2 : Int) := ⟨_, rfl, by omega⟩
          have hq1b : q1 < 256 := by have := unhide hq1; omega
          have hq2b : q2 < 256 := by have := unhide hq2; omega
          rw [unhide hq1, unhide hq2] at Hby
          clear hfn hby hht2 e1
          go_wp2_with fail
          refine (unhide HO _).mono ?_
          rintro e w' ⟨rfl, rfl⟩
          go_wp2_with (at_builtin; refine wpList_append_2 rfl (.tmp 42) (.tmp 51) rfl w w.heap.size acc _ rfl w' _ _ (UInt8.ofNat q1) (UInt8.ofNat q2) (ofNat_small q1 hq1b) (ofNat_small q2 hq2b) hB rfl (by omega) ?_; intro v2 w2 hB2)
          go_roundw
          case rel => exact ⟨pos + wd, dn ++ [ht], acc ++ [UInt8.ofNat q1, UInt8.ofNat q2], by omega, by go_num, HT2, by rw [List.length_append]; show _ + 2 ≤ _; omega, by show _ = _; rw [unhide HA2, unhide Hby], hB2⟩
          case measure => simp [intOf]; omega
        · have hsub : N < 65 ∨ (65 ≤ N ∧ N < 913) ∨ 937 < N ∨ N = 930 := by omega
          rcases hsub with HC | HC | HC | HC
          · have f0 : decide ((65 : Int) ≤ (N : Int)) = false := by simp; omega
            have f2 : decide ((913 : Int) ≤ (N : Int)) = false := by simp; omega
            have hcap : pCapital N = false := by simp [pCapital]; omega
            rw [if_neg (by rw [hcap]; exact Bool.false_ne_true)] at hfn
            have hby : (foldTok ht).2 = (l.drop pos).take wd := by rw [hfn, hht2]
            have Hby := hide hby
            have es := slice_str l pos wd (by omega)
            have hbl : ((l.drop pos).take wd).length ≤ wd := by rw [List.length_take]; omega
            have hb4 : Hid (acc.length + wd ≤ 140737488355328) := by show _ ≤ _; omega
            have bs1 : (pos : Int) ≤ (pos : Int) + (wd : Int) ∧ (pos : Int) + (wd : Int) ≤ (l.length : Int) := by omega
            have haw : Hid (acc.length + wd ≤ 4 * (pos + wd)) := by show _ ≤ _; omega
            obtain ⟨ch, hch⟩ : ∃ ch, Hid ((l.drop pos).take wd = ch) := ⟨_, rfl⟩
            rw [unhide hch] at es hbl Hby
            clear hfn hby hht2 e1 hcap hch HC
            go_wp2_with fail
            refine (unhide HO _).mono ?_
            rintro e w' ⟨rfl, rfl⟩
            go_wp2_with (at_builtin; refine wpList_append_s rfl (.tmp 53) (.tmp 59) rfl w w.heap.size acc _ rfl ch hB (congrArg Value.string es) (by have := unhide hb4; omega) ?_; intro v2 w2 hB2)
            go_roundw
            case rel => exact ⟨pos + wd, dn ++ [ht], acc ++ ch, by omega, by go_num, HT2, by have := unhide haw; rw [List.length_append]; omega, by show _ = _; rw [unhide HA2, unhide Hby], hB2⟩
            case measure => simp [intOf]; omega
          · have f0 : decide ((65 : Int) ≤ (N : Int)) = true := by simp; omega
            have f1 : decide ((N : Int) ≤ 90) = false := by simp; omega
            have f2 : decide ((913 : Int) ≤ (N : Int)) = false := by simp; omega
            have hcap : pCapital N = false := by simp [pCapital]; omega
            rw [if_neg (by rw [hcap]; exact Bool.false_ne_true)] at hfn
            have hby : (foldTok ht).2 = (l.drop pos).take wd := by rw [hfn, hht2]
            have Hby := hide hby
            have es := slice_str l pos wd (by omega)
            have hbl : ((l.drop pos).take wd).length ≤ wd := by rw [List.length_take]; omega
            have hb4 : Hid (acc.length + wd ≤ 140737488355328) := by show _ ≤ _; omega
            have bs1 : (pos : Int) ≤ (pos : Int) + (wd : Int) ∧ (pos : Int) + (wd : Int) ≤ (l.length : Int) := by omega
            have haw : Hid (acc.length + wd ≤ 4 * (pos + wd)) := by show _ ≤ _; omega
            obtain ⟨ch, hch⟩ : ∃ ch, Hid ((l.drop pos).take wd = ch) := ⟨_, rfl⟩
            rw [unhide hch] at es hbl Hby
            clear hfn hby hht2 e1 hcap hch HC
            go_wp2_with fail
            refine (unhide HO _).mono ?_
            rintro e w' ⟨rfl, rfl⟩
            go_wp2_with (at_builtin; refine wpList_append_s rfl (.tmp 53) (.tmp 59) rfl w w.heap.size acc _ rfl ch hB (congrArg Value.string es) (by have := unhide hb4; omega) ?_; intro v2 w2 hB2)
            go_roundw
            case rel => exact ⟨pos + wd, dn ++ [ht], acc ++ ch, by omega, by go_num, HT2, by have := unhide haw; rw [List.length_append]; omega, by show _ = _; rw [unhide HA2, unhide Hby], hB2⟩
            case measure => simp [intOf]; omega
          · have f0 : decide ((65 : Int) ≤ (N : Int)) = true := by simp; omega
            have f1 : decide ((N : Int) ≤ 90) = false := by simp; omega
            have f2 : decide ((913 : Int) ≤ (N : Int)) = true := by simp; omega
            have f3 : decide ((N : Int) ≤ 937) = false := by simp; omega
            have hcap : pCapital N = false := by simp [pCapital]; omega
            rw [if_neg (by rw [hcap]; exact Bool.false_ne_true)] at hfn
            have hby : (foldTok ht).2 = (l.drop pos).take wd := by rw [hfn, hht2]
            have Hby := hide hby
            have es := slice_str l pos wd (by omega)
            have hbl : ((l.drop pos).take wd).length ≤ wd := by rw [List.length_take]; omega
            have hb4 : Hid (acc.length + wd ≤ 140737488355328) := by show _ ≤ _; omega
            have bs1 : (pos : Int) ≤ (pos : Int) + (wd : Int) ∧ (pos : Int) + (wd : Int) ≤ (l.length : Int) := by omega
            have haw : Hid (acc.length + wd ≤ 4 * (pos + wd)) := by show _ ≤ _; omega
            obtain ⟨ch, hch⟩ : ∃ ch, Hid ((l.drop pos).take wd = ch) := ⟨_, rfl⟩
            rw [unhide hch] at es hbl Hby
            clear hfn hby hht2 e1 hcap hch HC
            go_wp2_with fail
            refine (unhide HO _).mono ?_
            rintro e w' ⟨rfl, rfl⟩
            go_wp2_with (at_builtin; refine wpList_append_s rfl (.tmp 53) (.tmp 59) rfl w w.heap.size acc _ rfl ch hB (congrArg Value.string es) (by have := unhide hb4; omega) ?_; intro v2 w2 hB2)
            go_roundw
            case rel => exact ⟨pos + wd, dn ++ [ht], acc ++ ch, by omega, by go_num, HT2, by have := unhide haw; rw [List.length_append]; omega, by show _ = _; rw [unhide HA2, unhide Hby], hB2⟩
            case measure => simp [intOf]; omega
          · have f0 : decide ((65 : Int) ≤ (N : Int)) = true := by simp; omega
            have f1 : decide ((N : Int) ≤ 90) = false := by simp; omega
            have f2 : decide ((913 : Int) ≤ (N : Int)) = true := by simp; omega
            have f3 : decide ((N : Int) ≤ 937) = true := by simp; omega
            have f4 : ((N : Int) != 930) = false := by simp; omega
            have hcap : pCapital N = false := by simp [pCapital]; omega
            rw [if_neg (by rw [hcap]; exact Bool.false_ne_true)] at hfn
            have hby : (foldTok ht).2 = (l.drop pos).take wd := by rw [hfn, hht2]
            have Hby := hide hby
            have es := slice_str l pos wd (by omega)
            have hbl : ((l.drop pos).take wd).length ≤ wd := by rw [List.length_take]; omega
            have hb4 : Hid (acc.length + wd ≤ 140737488355328) := by show _ ≤ _; omega
            have bs1 : (pos : Int) ≤ (pos : Int) + (wd : Int) ∧ (pos : Int) + (wd : Int) ≤ (l.length : Int) := by omega
            have haw : Hid (acc.length + wd ≤ 4 * (pos + wd)) := by show _ ≤ _; omega
            obtain ⟨ch, hch⟩ : ∃ ch, Hid ((l.drop pos).take wd = ch) := ⟨_, rfl⟩
            rw [unhide hch] at es hbl Hby
            clear hfn hby hht2 e1 hcap hch HC
            go_wp2_with fail
            refine (unhide HO _).mono ?_
            rintro e w' ⟨rfl, rfl⟩
            go_wp2_with (at_builtin; refine wpList_append_s rfl (.tmp 53) (.tmp 59) rfl w w.heap.size acc _ rfl ch hB (congrArg Value.string es) (by have := unhide hb4; omega) ?_; intro v2 w2 hB2)
            go_roundw
            case rel => exact ⟨pos + wd, dn ++ [ht], acc ++ ch, by omega, by go_num, HT2, by have := unhide haw; rw [List.length_append]; omega, by show _ = _; rw [unhide HA2, unhide Hby], hB2⟩
            case measure => simp [intOf]; omega
    · have hd : decide (pos < l.length) = false := by simpa using hlt
      have hT' := unhide hT
      rw [List.drop_of_length_le (by omega), tk_nil, List.append_nil] at hT'
      have hFa : F = acc := by rw [← unhide HF, hT', unhide hA]
      subst hFa
      have hcv := hB.convert
      have hbl := hB.2.1
      clear hT hT' hA HF
      go_wp2
      go_ret
      exact ⟨rfl, hbl⟩
end Go.Proofs.YtdkcgiifldhdeaaDoor
