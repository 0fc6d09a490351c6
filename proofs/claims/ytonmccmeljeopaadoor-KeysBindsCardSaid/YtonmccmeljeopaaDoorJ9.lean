/-
  SUMS WORKED OUT BY THE KERNEL: the standard's blocks over numbers, each value worked out as it is made; that they are the sums of ShaEnd. Plain.
-/
/-
  KEYS WORKED OUT BY THE KERNEL: secrets, publics, words, nodes as sums over numbers. Plain.
-/
/-
  THE WORDS OF THE SEED 7's KEYS 0 TO 3, worked out by the kernel.
-/
/-
  THE WORDS OF THE SEED 7's KEYS 4 TO 7, worked out by the kernel.
-/
/-
  THE WORDS OF THE SEED 7's KEYS 8 TO 11, worked out by the kernel.
-/
/-
  THE WORDS OF THE SEED 7's KEYS 12 TO 15, worked out by the kernel.
-/
/-
  THE ROOT OF THE SEED 7's KEYS; what is signed of the digest 1 isn't verified of the digest 2.
-/
/-
  THE LAYER's awake, OF KEYS: a signature is verified of its digest, and isn't of another.
-/
/-
  A WHOLE ROW LOADED WHERE A GUARD LETS IT. Over whatever program.
-/
/-
  KeysBinds: a signature that is verified under a signer's root is the key's own, unless two inputs clash.
-/
import Derived.Test.YtonmccmeljeopaaDoorJ1
import Derived.Test.YtonmccmeljeopaaDoorJ4
import Derived.Test.YtonmccmeljeopaaDoorJ5
import Derived.Test.YtonmccmeljeopaaDoorJ8
import Derived.Test.YtonmccmeljeopaaDoorJ7
import Derived.Test.YtonmccmeljeopaaDoorJ0
namespace Go.Proofs.YtonmccmeljeopaaDoor
open Go.RowKit
set_option linter.unusedSimpArgs false
set_option linter.unusedVariables false

theorem pThrough_append (s : S8) (l m : List UInt8) : pThrough s (l ++ m) = pThrough (pThrough s l).1 ((pThrough s l).2 ++ m) := by
  generalize hn : l.length = n
  induction n using Nat.strongRecOn generalizing s l with
  | _ n ih =>
    by_cases h : 64 ≤ l.length
    · rw [pThrough_step s l h, pThrough_step s (l ++ m) (by simp; omega)]
      rw [List.take_append_of_le_length h, List.drop_append_of_le_length h]
      exact ih (l.drop 64).length (by simp; omega) _ _ rfl
    · rw [pThrough_end s l (by omega)]
/-- A number worked out, then handed on. -/
def fN {α : Type} (x : Nat) (k : Nat → α) : α := Nat.casesOn (motive := fun _ => α) x (k 0) (fun n => k (Nat.succ n))
theorem fN_eq {α : Type} (x : Nat) (k : Nat → α) : fN x k = k x := by cases x <;> rfl
/-- A list worked out, then handed on. -/
def fL {α : Type} : List Nat → (List Nat → α) → α
  | [], k => k []
  | x :: l, k => fN x fun y => fL l fun m => k (y :: m)
theorem fL_eq {α : Type} : ∀ (l : List Nat) (k : List Nat → α), fL l k = k l
  | [], k => rfl
  | x :: l, k => by rw [fL, fN_eq, fL_eq l]
def fTake {α : Type} : Nat → List Nat → (List Nat → List Nat → α) → α
  | 0, l, k => k [] l
  | n + 1, [], k => k [] []
  | n + 1, x :: l, k => fTake n l fun a b => k (x :: a) b
theorem fTake_eq {α : Type} : ∀ (n : Nat) (l : List Nat) (k : List Nat → List Nat → α), fTake n l k = k (l.take n) (l.drop n)
  | 0, l, k => rfl
  | n + 1, [], k => rfl
  | n + 1, x :: l, k => by rw [fTake, fTake_eq n l]; rfl
def fSnoc {α : Type} : List Nat → Nat → (List Nat → α) → α
  | [], x, k => k [x]
  | y :: l, x, k => fSnoc l x fun m => k (y :: m)
theorem fSnoc_eq {α : Type} : ∀ (l : List Nat) (x : Nat) (k : List Nat → α), fSnoc l x k = k (l ++ [x])
  | [], x, k => rfl
  | y :: l, x, k => by rw [fSnoc, fSnoc_eq l]; rfl
def M32 : Nat := nat_lit 4294967296
def fRot (x s t : Nat) : Nat := Nat.lor (Nat.mod (Nat.shiftLeft x s) (nat_lit 4294967296)) (Nat.shiftRight x t)
def fB0 (x : Nat) : Nat := Nat.xor (Nat.xor (fRot x (nat_lit 30) (nat_lit 2)) (fRot x (nat_lit 19) (nat_lit 13))) (fRot x (nat_lit 10) (nat_lit 22))
def fB1 (x : Nat) : Nat := Nat.xor (Nat.xor (fRot x (nat_lit 26) (nat_lit 6)) (fRot x (nat_lit 21) (nat_lit 11))) (fRot x (nat_lit 7) (nat_lit 25))
def fS0 (x : Nat) : Nat := Nat.xor (Nat.xor (fRot x (nat_lit 25) (nat_lit 7)) (fRot x (nat_lit 14) (nat_lit 18))) (Nat.shiftRight x (nat_lit 3))
def fS1 (x : Nat) : Nat := Nat.xor (Nat.xor (fRot x (nat_lit 15) (nat_lit 17)) (fRot x (nat_lit 13) (nat_lit 19))) (Nat.shiftRight x (nat_lit 10))
def fCh (x y z : Nat) : Nat := Nat.xor (Nat.land x y) (Nat.land (Nat.sub (nat_lit 4294967295) x) z)
def fMj (x y z : Nat) : Nat := Nat.xor (Nat.xor (Nat.land x y) (Nat.land x z)) (Nat.land y z)
theorem fRot_eq (x : BitVec 32) (n : Nat) (h0 : 0 < n) (h : n < 32) : fRot x.toNat (32 - n) n = (rotr x n).toNat := by
  unfold rotr rotl fRot
  rw [BitVec.toNat_or, BitVec.toNat_shiftLeft, BitVec.toNat_ushiftRight, show 32 - (32 - n) = n by omega]
  rfl
theorem fB0_eq (x : BitVec 32) : fB0 x.toNat = (pBigZero x).toNat := by
  unfold fB0 pBigZero
  rw [BitVec.toNat_xor, BitVec.toNat_xor, ← fRot_eq x 2 (by decide) (by decide), ← fRot_eq x 13 (by decide) (by decide), ← fRot_eq x 22 (by decide) (by decide)]
  rfl
theorem fB1_eq (x : BitVec 32) : fB1 x.toNat = (pBigOne x).toNat := by
  unfold fB1 pBigOne
  rw [BitVec.toNat_xor, BitVec.toNat_xor, ← fRot_eq x 6 (by decide) (by decide), ← fRot_eq x 11 (by decide) (by decide), ← fRot_eq x 25 (by decide) (by decide)]
  rfl
theorem fS0_eq (x : BitVec 32) : fS0 x.toNat = (pSmallZero x).toNat := by
  unfold fS0 pSmallZero
  rw [BitVec.toNat_xor, BitVec.toNat_xor, BitVec.toNat_ushiftRight, ← fRot_eq x 7 (by decide) (by decide), ← fRot_eq x 18 (by decide) (by decide)]
  rfl
theorem fS1_eq (x : BitVec 32) : fS1 x.toNat = (pSmallOne x).toNat := by
  unfold fS1 pSmallOne
  rw [BitVec.toNat_xor, BitVec.toNat_xor, BitVec.toNat_ushiftRight, ← fRot_eq x 17 (by decide) (by decide), ← fRot_eq x 19 (by decide) (by decide)]
  rfl
theorem fCh_eq (x y z : BitVec 32) : fCh x.toNat y.toNat z.toNat = (pChoice x y z).toNat := by
  unfold fCh pChoice
  rw [BitVec.toNat_xor, BitVec.toNat_and, BitVec.toNat_and, BitVec.toNat_not]
  rfl
theorem fMj_eq (x y z : BitVec 32) : fMj x.toNat y.toNat z.toNat = (pMajority x y z).toNat := by
  unfold fMj pMajority
  rw [BitVec.toNat_xor, BitVec.toNat_xor, BitVec.toNat_and, BitVec.toNat_and, BitVec.toNat_and]
  rfl
theorem addw_nat (x y : BitVec 32) : (addw x y).toNat = (x.toNat + y.toNat) % 4294967296 := BitVec.toNat_add x y
/-- The words that a block is drawn out to: the window goes on. -/
def fNext (l : List Nat) : Nat := Nat.mod (Nat.add (Nat.add (Nat.add (fS1 (l.getD 14 0)) (l.getD 9 0)) (fS0 (l.getD 1 0))) (l.getD 0 0)) (nat_lit 4294967296)
def fSch {α : Type} : Nat → List Nat → (List Nat → α) → α
  | 0, l, k => k l
  | n + 1, [], k => k []
  | n + 1, y :: l, k => fN (fNext (y :: l)) fun x => fSnoc l x fun m => fSch n m fun r => k (y :: r)
def schIt : Nat → List (BitVec 32) → List (BitVec 32)
  | 0, ws => ws
  | k + 1, ws => schIt k ws ++ [schedNext (schIt k ws)]
theorem schIt_len : ∀ k ws, (schIt k ws).length = ws.length + k
  | 0, ws => rfl
  | k + 1, ws => by rw [schIt, List.length_append, schIt_len k ws]; rfl
theorem schIt_comm : ∀ k ws, schIt (k + 1) ws = schIt k (ws ++ [schedNext ws])
  | 0, ws => rfl
  | k + 1, ws => by
    have ih := schIt_comm k ws
    show schIt (k + 1) ws ++ [schedNext (schIt (k + 1) ws)] = schIt k (ws ++ [schedNext ws]) ++ [schedNext (schIt k (ws ++ [schedNext ws]))]
    rw [ih]
theorem next_cons (y : BitVec 32) (ws : List (BitVec 32)) (h : 16 ≤ ws.length) : schedNext (y :: ws) = schedNext ws := by
  unfold schedNext
  rw [List.length_cons]
  rw [show ws.length + 1 - 2 = (ws.length - 2) + 1 by omega, show ws.length + 1 - 7 = (ws.length - 7) + 1 by omega, show ws.length + 1 - 15 = (ws.length - 15) + 1 by omega, show ws.length + 1 - 16 = (ws.length - 16) + 1 by omega]
  rfl
theorem schIt_cons (y : BitVec 32) : ∀ k ws, 16 ≤ ws.length → schIt k (y :: ws) = y :: schIt k ws
  | 0, ws, h => rfl
  | k + 1, ws, h => by
    rw [schIt, schIt_cons y k ws h, next_cons y _ (by rw [schIt_len]; omega)]
    rfl
theorem sched_it (l : List UInt8) (k : Nat) : schedN l k = schIt k (sched16 l 16) := by
  induction k with
  | zero => rfl
  | succ k ih => rw [schedN, schIt, ih]
theorem fNext_eq (ws : List (BitVec 32)) (h : ws.length = 16) : fNext (ws.map BitVec.toNat) = (schedNext ws).toNat := by
  match ws, h with
  | [w0, w1, w2, w3, w4, w5, w6, w7, w8, w9, w10, w11, w12, w13, w14, w15], _ =>
    show (fS1 w14.toNat + w9.toNat + fS0 w1.toNat + w0.toNat) % 4294967296 = _
    rw [fS1_eq, fS0_eq]
    show _ = (addw (addw (addw (pSmallOne w14) w9) (pSmallZero w1)) w0).toNat
    rw [addw_nat, addw_nat, addw_nat]
    omega
theorem fSch_eq {α : Type} : ∀ (n : Nat) (ws : List (BitVec 32)) (k : List Nat → α), ws.length = 16 → fSch n (ws.map BitVec.toNat) k = k ((schIt n ws).map BitVec.toNat)
  | 0, ws, k, h => rfl
  | n + 1, [], k, h => by simp at h
  | n + 1, y :: ws, k, h => by
    have hw : ws.length = 15 := by simpa using h
    rw [List.map_cons, fSch, fN_eq, fSnoc_eq]
    rw [show y.toNat :: ws.map BitVec.toNat = (y :: ws).map BitVec.toNat from rfl, fNext_eq (y :: ws) h]
    rw [show ws.map BitVec.toNat ++ [(schedNext (y :: ws)).toNat] = (ws ++ [schedNext (y :: ws)]).map BitVec.toNat by simp]
    rw [fSch_eq n _ _ (by simp [hw])]
    rw [schIt_comm]
    rw [show y :: ws ++ [schedNext (y :: ws)] = y :: (ws ++ [schedNext (y :: ws)]) from rfl, schIt_cons y n _ (by simp [hw])]
    rfl
def fRounds {α : Type} : List Nat → List Nat → Nat → Nat → Nat → Nat → Nat → Nat → Nat → Nat → (Nat → Nat → Nat → Nat → Nat → Nat → Nat → Nat → α) → α
  | [], _, a, b, c, d, e, f, g, h, k => k a b c d e f g h
  | _ :: _, [], a, b, c, d, e, f, g, h, k => k a b c d e f g h
  | q :: qs, w :: ws, a, b, c, d, e, f, g, h, k =>
    fN (Nat.mod (Nat.add (Nat.add (Nat.add (Nat.add h (fB1 e)) (fCh e f g)) q) w) (nat_lit 4294967296)) fun t =>
    fN (Nat.mod (Nat.add d t) (nat_lit 4294967296)) fun e' =>
    fN (Nat.mod (Nat.add t (Nat.add (fB0 a) (fMj a b c))) (nat_lit 4294967296)) fun a' =>
    fRounds qs ws a' a b c e' e f g k
theorem fRounds_step {α : Type} (q w : BitVec 32) (qs ws : List (BitVec 32)) (s : S8) (k : Nat → Nat → Nat → Nat → Nat → Nat → Nat → Nat → α) :
    fRounds ((q :: qs).map BitVec.toNat) ((w :: ws).map BitVec.toNat) s.a.toNat s.b.toNat s.c.toNat s.d.toNat s.e.toNat s.f.toNat s.g.toNat s.h.toNat k =
      fRounds (qs.map BitVec.toNat) (ws.map BitVec.toNat) (pRound q w s).a.toNat (pRound q w s).b.toNat (pRound q w s).c.toNat (pRound q w s).d.toNat (pRound q w s).e.toNat (pRound q w s).f.toNat (pRound q w s).g.toNat (pRound q w s).h.toNat k := by
  rw [List.map_cons, List.map_cons, fRounds, fN_eq, fN_eq, fN_eq]
  have h1 : Nat.mod (Nat.add (Nat.add (Nat.add (Nat.add s.h.toNat (fB1 s.e.toNat)) (fCh s.e.toNat s.f.toNat s.g.toNat)) q.toNat) w.toNat) (nat_lit 4294967296) = (pOne q w s).toNat := by
    show (s.h.toNat + fB1 s.e.toNat + fCh s.e.toNat s.f.toNat s.g.toNat + q.toNat + w.toNat) % 4294967296 = _
    rw [fB1_eq, fCh_eq]
    unfold pOne
    rw [addw_nat, addw_nat, addw_nat, addw_nat]
    omega
  have h2 : Nat.mod (Nat.add s.d.toNat (pOne q w s).toNat) (nat_lit 4294967296) = (addw s.d (pOne q w s)).toNat := by rw [addw_nat]; rfl
  have h3 : Nat.mod (Nat.add (pOne q w s).toNat (Nat.add (fB0 s.a.toNat) (fMj s.a.toNat s.b.toNat s.c.toNat))) (nat_lit 4294967296) = (addw (pOne q w s) (pTwo s)).toNat := by
    show ((pOne q w s).toNat + (fB0 s.a.toNat + fMj s.a.toNat s.b.toNat s.c.toNat)) % 4294967296 = _
    rw [fB0_eq, fMj_eq]
    unfold pTwo
    rw [addw_nat, addw_nat]
    omega
  rw [h1, h2, h3]
  rfl
theorem fRounds_from {α : Type} (qs ws : List (BitVec 32)) (hq : qs.length = 64) (hw : ws.length = 64) (hk : qs = kWords) (s : S8) (k : Nat → Nat → Nat → Nat → Nat → Nat → Nat → Nat → α) : ∀ (m j : Nat), j + m = 64 →
    fRounds ((qs.drop j).map BitVec.toNat) ((ws.drop j).map BitVec.toNat) (pRounds ws s j).a.toNat (pRounds ws s j).b.toNat (pRounds ws s j).c.toNat (pRounds ws s j).d.toNat (pRounds ws s j).e.toNat (pRounds ws s j).f.toNat (pRounds ws s j).g.toNat (pRounds ws s j).h.toNat k =
      k (pRounds ws s 64).a.toNat (pRounds ws s 64).b.toNat (pRounds ws s 64).c.toNat (pRounds ws s 64).d.toNat (pRounds ws s 64).e.toNat (pRounds ws s 64).f.toNat (pRounds ws s 64).g.toNat (pRounds ws s 64).h.toNat
  | 0, j, h => by
    obtain rfl : j = 64 := by omega
    rw [List.drop_of_length_le (by omega)]
    rfl
  | m + 1, j, h => by
    have e1 : qs.drop j = qs.getD j 0 :: qs.drop (j + 1) := by rw [List.drop_eq_getElem_cons (by omega), List.getD_eq_getElem?_getD]; simp [show j < qs.length by omega]
    have e2 : ws.drop j = ws.getD j 0 :: ws.drop (j + 1) := by rw [List.drop_eq_getElem_cons (by omega), List.getD_eq_getElem?_getD]; simp [show j < ws.length by omega]
    rw [e1, e2, fRounds_step]
    have := fRounds_from qs ws hq hw hk s k m (j + 1) (by omega)
    rw [← this]
    have e3 : pRounds ws s (j + 1) = pRound (qs.getD j 0) (ws.getD j 0) (pRounds ws s j) := by rw [pRounds, hk]
    rw [e3]
def kNat : List Nat := [1116352408, 1899447441, 3049323471, 3921009573, 961987163, 1508970993, 2453635748, 2870763221, 3624381080, 310598401, 607225278, 1426881987, 1925078388, 2162078206, 2614888103, 3248222580, 3835390401, 4022224774, 264347078, 604807628, 770255983, 1249150122, 1555081692, 1996064986, 2554220882, 2821834349, 2952996808, 3210313671, 3336571891, 3584528711, 113926993, 338241895, 666307205, 773529912, 1294757372, 1396182291, 1695183700, 1986661051, 2177026350, 2456956037, 2730485921, 2820302411, 3259730800, 3345764771, 3516065817, 3600352804, 4094571909, 275423344, 430227734, 506948616, 659060556, 883997877, 958139571, 1322822218, 1537002063, 1747873779, 1955562222, 2024104815, 2227730452, 2361852424, 2428436474, 2756734187, 3204031479, 3329325298]
theorem kNat_eq : kNat = kWords.map BitVec.toNat := by decide +kernel
def fWords {α : Type} : List Nat → (List Nat → α) → α
  | a :: b :: c :: d :: l, k => fN (Nat.add (Nat.add (Nat.add (Nat.mul a (nat_lit 16777216)) (Nat.mul b (nat_lit 65536))) (Nat.mul c (nat_lit 256))) d) fun x => fWords l fun m => k (x :: m)
  | _, k => k []
theorem wAt_drop (l : List UInt8) (a b c d : UInt8) (k : Nat) : wAt (a :: b :: c :: d :: l) (k + 4) = wAt l k := rfl
theorem fWords_eq {α : Type} : ∀ (n : Nat) (l : List UInt8) (k : List Nat → α), l.length = 4 * n → fWords (l.map UInt8.toNat) k = k ((sched16 l n).map BitVec.toNat)
  | 0, l, k, h => by
    obtain rfl : l = [] := List.length_eq_zero_iff.1 (by omega)
    rfl
  | n + 1, l, k, h => by
    match l, h with
    | a :: b :: c :: d :: l, h =>
      have hl : l.length = 4 * n := by simp at h; omega
      rw [List.map_cons, List.map_cons, List.map_cons, List.map_cons, fWords, fN_eq, fWords_eq n l _ hl]
      have e : sched16 (a :: b :: c :: d :: l) (n + 1) = word a b c d :: sched16 l n := by
        unfold sched16
        rw [List.range_succ_eq_map, List.map_cons, List.map_map]
        congr 1
      rw [e, List.map_cons, word_toNat]
      rfl
def fBlock {α : Type} (a b c d e f g h : Nat) (blk : List Nat) (k : Nat → Nat → Nat → Nat → Nat → Nat → Nat → Nat → α) : α :=
  fWords blk fun ws => fSch 48 ws fun sc => fRounds kNat sc a b c d e f g h fun a' b' c' d' e' f' g' h' =>
    fN (Nat.mod (Nat.add a a') (nat_lit 4294967296)) fun a => fN (Nat.mod (Nat.add b b') (nat_lit 4294967296)) fun b => fN (Nat.mod (Nat.add c c') (nat_lit 4294967296)) fun c => fN (Nat.mod (Nat.add d d') (nat_lit 4294967296)) fun d =>
    fN (Nat.mod (Nat.add e e') (nat_lit 4294967296)) fun e => fN (Nat.mod (Nat.add f f') (nat_lit 4294967296)) fun f => fN (Nat.mod (Nat.add g g') (nat_lit 4294967296)) fun g => fN (Nat.mod (Nat.add h h') (nat_lit 4294967296)) fun h => k a b c d e f g h
theorem fBlock_eq {α : Type} (s : S8) (l : List UInt8) (hl : l.length = 64) (k : Nat → Nat → Nat → Nat → Nat → Nat → Nat → Nat → α) :
    fBlock s.a.toNat s.b.toNat s.c.toNat s.d.toNat s.e.toNat s.f.toNat s.g.toNat s.h.toNat (l.map UInt8.toNat) k =
      k (pBlock s l).a.toNat (pBlock s l).b.toNat (pBlock s l).c.toNat (pBlock s l).d.toNat (pBlock s l).e.toNat (pBlock s l).f.toNat (pBlock s l).g.toNat (pBlock s l).h.toNat := by
  unfold fBlock
  rw [fWords_eq 16 l _ (by omega), fSch_eq 48 _ _ (sched16_length l 16), ← sched_it]
  rw [kNat_eq]
  have e := fun (k : Nat → Nat → Nat → Nat → Nat → Nat → Nat → Nat → α) => fRounds_from kWords (schedN l 48) (by decide) (by rw [schedN_length]) rfl s k 64 0 (by omega)
  simp only [List.drop_zero, pRounds] at e
  rw [e]
  simp only [fN_eq]
  rw [pBlock, if_pos hl]
  unfold S8.add
  simp only [addw_nat]
  rfl
def fThrough {α : Type} : Nat → List Nat → Nat → Nat → Nat → Nat → Nat → Nat → Nat → Nat → (Nat → Nat → Nat → Nat → Nat → Nat → Nat → Nat → α) → α
  | 0, _, a, b, c, d, e, f, g, h, k => k a b c d e f g h
  | n + 1, l, a, b, c, d, e, f, g, h, k => fTake 64 l fun blk rest => fBlock a b c d e f g h blk fun a b c d e f g h => fThrough n rest a b c d e f g h k
theorem fThrough_eq {α : Type} : ∀ (n : Nat) (l : List UInt8) (s : S8) (k : Nat → Nat → Nat → Nat → Nat → Nat → Nat → Nat → α), l.length = 64 * n →
    fThrough n (l.map UInt8.toNat) s.a.toNat s.b.toNat s.c.toNat s.d.toNat s.e.toNat s.f.toNat s.g.toNat s.h.toNat k =
      k (pThrough s l).1.a.toNat (pThrough s l).1.b.toNat (pThrough s l).1.c.toNat (pThrough s l).1.d.toNat (pThrough s l).1.e.toNat (pThrough s l).1.f.toNat (pThrough s l).1.g.toNat (pThrough s l).1.h.toNat
  | 0, l, s, k, h => by rw [fThrough, pThrough_end s l (by omega)]
  | n + 1, l, s, k, h => by
    rw [fThrough, fTake_eq, ← List.map_take, ← List.map_drop, fBlock_eq s (l.take 64) (by rw [List.length_take]; omega), fThrough_eq n (l.drop 64) (pBlock s (l.take 64)) k (by rw [List.length_drop]; omega), ← pThrough_step s l (by omega)]
def fByte (x s : Nat) : Nat := Nat.mod (Nat.shiftRight x s) (nat_lit 256)
def fBytes {α : Type} (x : Nat) (m : List Nat) (k : List Nat → α) : α :=
  fN (fByte x (nat_lit 24)) fun a => fN (fByte x (nat_lit 16)) fun b => fN (fByte x (nat_lit 8)) fun c => fN (fByte x (nat_lit 0)) fun d => k (a :: b :: c :: d :: m)
theorem fByte_eq (x : BitVec 32) (s : Nat) : fByte x.toNat s = (UInt8.ofNat (x.toNat / 2 ^ s)).toNat := by
  rw [UInt8.toNat_ofNat']
  show (x.toNat >>> s) % 256 = _
  rw [Nat.shiftRight_eq_div_pow]
theorem fBytes_eq {α : Type} (x : BitVec 32) (m : List UInt8) (k : List Nat → α) : fBytes x.toNat (m.map UInt8.toNat) k = k ((wordBytes x ++ m).map UInt8.toNat) := by
  unfold fBytes
  simp only [fN_eq, fByte_eq]
  rfl
/-- The digest of a message that is whole blocks. -/
def fHash {α : Type} (n : Nat) (m : List Nat) (k : List Nat → α) : α :=
  fL m fun m => fThrough n m (nat_lit 1779033703) (nat_lit 3144134277) (nat_lit 1013904242) (nat_lit 2773480762) (nat_lit 1359893119) (nat_lit 2600822924) (nat_lit 528734635) (nat_lit 1541459225) fun a b c d e f g h =>
    fBytes h [] fun r => fBytes g r fun r => fBytes f r fun r => fBytes e r fun r => fBytes d r fun r => fBytes c r fun r => fBytes b r fun r => fBytes a r k
def padOf (n : Nat) : List UInt8 := padBytes (n % 64) (BitVec.ofNat 64 n)
theorem rest_len (s : S8) : ∀ (n : Nat) (l : List UInt8), l.length / 64 = n → (pThrough s l).2.length = l.length % 64
  | 0, l, h => by rw [pThrough_end s l (by omega)]; show l.length = _; omega
  | n + 1, l, h => by
    rw [pThrough_step s l (by omega), rest_len _ n (l.drop 64) (by rw [List.length_drop]; omega), List.length_drop]
    omega
theorem pSum_pad (l : List UInt8) : pSum [l] = (pThrough pBegin.s (l ++ padOf l.length)).1.bytes := by
  show pEnd (pAdd pBegin l) = _
  unfold pEnd pAdd
  simp only [pBegin, List.nil_append]
  rw [pThrough_append _ l (padOf l.length)]
  have hr := rest_len ⟨1779033703, 3144134277, 1013904242, 2773480762, 1359893119, 2600822924, 528734635, 1541459225⟩ _ l rfl
  unfold padOf
  rw [hr, show add64 0 (BitVec.ofNat 64 l.length) = BitVec.ofNat 64 l.length from BitVec.zero_add _]
theorem fHash_eq {α : Type} (n : Nat) (l : List UInt8) (m : List Nat) (k : List Nat → α) (hl : (l ++ padOf l.length).length = 64 * n) (hm : m = (l ++ padOf l.length).map UInt8.toNat) : fHash n m k = k ((pSum [l]).map UInt8.toNat) := by
  unfold fHash
  rw [fL_eq, hm]
  have e := fun (k : Nat → Nat → Nat → Nat → Nat → Nat → Nat → Nat → α) => fThrough_eq n (l ++ padOf l.length) pBegin.s k hl
  have e' := e fun a b c d e f g h => fBytes h [] fun r => fBytes g r fun r => fBytes f r fun r => fBytes e r fun r => fBytes d r fun r => fBytes c r fun r => fBytes b r fun r => fBytes a r k
  rw [pSum_pad]
  refine Eq.trans e' ?_
  generalize (pThrough pBegin.s (l ++ padOf l.length)).1 = s
  rw [show ([] : List Nat) = ([] : List UInt8).map UInt8.toNat from rfl]
  simp only [fBytes_eq]
  congr 2
end Go.Proofs.YtonmccmeljeopaaDoor

namespace Go.Proofs.YtonmccmeljeopaaDoor
open Go.RowKit
set_option linter.unusedSimpArgs false
set_option linter.unusedVariables false

def fApp {α : Type} : List Nat → List Nat → (List Nat → α) → α
  | [], m, k => k m
  | x :: l, m, k => fApp l m fun r => k (x :: r)
theorem fApp_eq {α : Type} : ∀ (l m : List Nat) (k : List Nat → α), fApp l m k = k (l ++ m)
  | [], m, k => rfl
  | x :: l, m, k => by rw [fApp, fApp_eq l]; rfl
theorem big4 (n : Nat) (h : n < 256) : (pBig n 4).map UInt8.toNat = [0, 0, 0, n] := by
  show [(UInt8.ofNat (n / 2 ^ 24)).toNat, (UInt8.ofNat (n / 2 ^ 16)).toNat, (UInt8.ofNat (n / 2 ^ 8)).toNat, (UInt8.ofNat (n / 2 ^ 0)).toNat] = _
  rw [UInt8.toNat_ofNat', UInt8.toNat_ofNat', UInt8.toNat_ofNat', UInt8.toNat_ofNat', Nat.div_eq_of_lt (by omega), Nat.div_eq_of_lt (show n < 2 ^ 16 by omega), Nat.div_eq_of_lt (show n < 2 ^ 8 by omega), Nat.pow_zero, Nat.div_one, Nat.mod_eq_of_lt (show n < 2 ^ 8 by omega)]
theorem big1 (n : Nat) (h : n < 256) : (pBig n 1).map UInt8.toNat = [n] := by
  show [(UInt8.ofNat (n / 2 ^ 0)).toNat] = _
  rw [UInt8.toNat_ofNat', Nat.pow_zero, Nat.div_one, Nat.mod_eq_of_lt (show n < 2 ^ 8 by omega)]
theorem big2048 : (pBig 2048 4).map UInt8.toNat = [0, 0, 8, 0] := by decide +kernel
def pad55 : List Nat := [128, 0, 0, 0, 0, 0, 0, 1, 184]
def pad37 : List Nat := [128, 0, 0, 0, 0, 0, 0, 0, 0, 0, 0, 0, 0, 0, 0, 0, 0, 0, 0, 0, 0, 0, 0, 0, 0, 1, 40]
def pad2053 : List Nat := [128, 0, 0, 0, 0, 0, 0, 0, 0, 0, 0, 0, 0, 0, 0, 0, 0, 0, 0, 0, 0, 0, 0, 0, 0, 0, 0, 0, 0, 0, 0, 0, 0, 0, 0, 0, 0, 0, 0, 0, 0, 0, 0, 0, 0, 0, 0, 0, 0, 0, 0, 0, 0, 0, 0, 0, 0, 64, 40]
def pad73 : List Nat := [128, 0, 0, 0, 0, 0, 0, 0, 0, 0, 0, 0, 0, 0, 0, 0, 0, 0, 0, 0, 0, 0, 0, 0, 0, 0, 0, 0, 0, 0, 0, 0, 0, 0, 0, 0, 0, 0, 0, 0, 0, 0, 0, 0, 0, 0, 0, 0, 0, 0, 0, 0, 0, 2, 72]
theorem pad55_eq : (padOf 55).map UInt8.toNat = pad55 := by decide +kernel
theorem pad37_eq : (padOf 37).map UInt8.toNat = pad37 := by decide +kernel
theorem pad2053_eq : (padOf 2053).map UInt8.toNat = pad2053 := by decide +kernel
theorem pad73_eq : (padOf 73).map UInt8.toNat = pad73 := by decide +kernel
theorem padOf_55 : (padOf 55).length = 9 := by decide +kernel
theorem padOf_37 : (padOf 37).length = 27 := by decide +kernel
theorem padOf_2053 : (padOf 2053).length = 59 := by decide +kernel
theorem padOf_73 : (padOf 73).length = 55 := by decide +kernel
theorem pText_len (p : List UInt8) : (pText4 p).length = 4 + p.length := pText4_length p
def fSecret {α : Type} (s : List Nat) (x i b : Nat) (k : List Nat → α) : α :=
  fHash 1 (1 :: 0 :: 0 :: 0 :: 32 :: (s ++ (0 :: 0 :: 0 :: 4 :: 0 :: 0 :: 0 :: x :: 0 :: 0 :: 0 :: 1 :: i :: 0 :: 0 :: 0 :: 1 :: b :: pad55))) k
theorem fSecret_eq {α : Type} (seed : List UInt8) (hs : seed.length = 32) (x i b : Nat) (hx : x < 256) (hi : i < 256) (hb : b < 256) (k : List Nat → α) : fSecret (seed.map UInt8.toNat) x i b k = k ((pSecret seed x i b).map UInt8.toNat) := by
  have hl : (pInput 1 [seed, pBig x 4, pBig i 1, pBig b 1]).length = 55 := by
    simp only [pInput, List.length_append, pBig_length, List.flatMap_cons, List.flatMap_nil, pText_len, hs, List.length_nil]
  refine fHash_eq 1 (pInput 1 [seed, pBig x 4, pBig i 1, pBig b 1]) _ k (by rw [List.length_append, hl, padOf_55]) ?_
  rw [hl, List.map_append, pad55_eq]
  simp only [pInput, List.map_append, List.flatMap_cons, List.flatMap_nil, pText4, hs, pBig_length, big4 32 (by decide), big4 4 (by decide), big4 1 (by decide), big4 x hx, big1 1 (by decide), big1 i hi, big1 b hb, List.map_nil]
  simp only [List.append_nil, List.append_assoc, List.cons_append, List.nil_append]
def fPublic {α : Type} (s : List Nat) (k : List Nat → α) : α := fHash 1 (2 :: 0 :: 0 :: 0 :: 32 :: (s ++ pad37)) k
theorem fPublic_eq {α : Type} (s : List UInt8) (hs : s.length = 32) (k : List Nat → α) : fPublic (s.map UInt8.toNat) k = k ((pPublic s).map UInt8.toNat) := by
  have hl : (pInput 2 [s]).length = 37 := by simp only [pInput, List.length_append, pBig_length, List.flatMap_cons, List.flatMap_nil, pText_len, hs, List.length_nil]
  refine fHash_eq 1 (pInput 2 [s]) _ k (by rw [List.length_append, hl, padOf_37]) ?_
  rw [hl, List.map_append, pad37_eq]
  simp only [pInput, List.map_append, List.flatMap_cons, List.flatMap_nil, pText4, hs, big4 32 (by decide), big1 2 (by decide), List.map_nil]
  simp only [List.append_nil, List.append_assoc, List.cons_append, List.nil_append]
def fPubs {α : Type} (s : List Nat) (x : Nat) : List Nat → (List Nat → α) → α
  | [], k => k []
  | j :: js, k => fN j fun j => fSecret s x (Nat.div j 2) (Nat.mod j 2) fun sec => fPublic sec fun p => fPubs s x js fun r => fApp p r k
theorem fPubs_eq {α : Type} (seed : List UInt8) (hs : seed.length = 32) (x : Nat) (hx : x < 256) : ∀ (js : List Nat) (k : List Nat → α), (∀ j ∈ js, j < 256) → fPubs (seed.map UInt8.toNat) x js k = k ((js.flatMap (pubAt seed x)).map UInt8.toNat)
  | [], k, h => rfl
  | j :: js, k, h => by
    have hj := h j (by simp)
    rw [fPubs, fN_eq, fSecret_eq seed hs x (Nat.div j 2) (Nat.mod j 2) hx (show j / 2 < 256 by omega) (show j % 2 < 256 by omega), fPublic_eq _ (pSecret_length _ _ _ _), fPubs_eq seed hs x hx js _ (fun i hi => h i (by simp [hi])), fApp_eq, ← List.map_append]
    rfl
def fWordOf {α : Type} (ps : List Nat) (k : List Nat → α) : α := fHash 33 (3 :: 0 :: 0 :: 8 :: 0 :: (ps ++ pad2053)) k
theorem fWordOf_eq {α : Type} (L : List UInt8) (hL : L.length = 2048) (k : List Nat → α) : fWordOf (L.map UInt8.toNat) k = k ((pWordOf L).map UInt8.toNat) := by
  have hl : (pInput 3 [L]).length = 2053 := by simp only [pInput, List.length_append, pBig_length, List.flatMap_cons, List.flatMap_nil, pText_len, hL, List.length_nil]
  refine fHash_eq 33 (pInput 3 [L]) _ k (by rw [List.length_append, hl, padOf_2053]) ?_
  rw [hl, List.map_append, pad2053_eq]
  simp only [pInput, List.map_append, List.flatMap_cons, List.flatMap_nil, pText4, hL, big2048, big1 3 (by decide), List.map_nil]
  simp only [List.append_nil, List.append_assoc, List.cons_append, List.nil_append]
def fNode {α : Type} (a b : List Nat) (k : List Nat → α) : α := fHash 2 (4 :: 0 :: 0 :: 0 :: 32 :: (a ++ (0 :: 0 :: 0 :: 32 :: (b ++ pad73)))) k
theorem fNode_eq {α : Type} (a b : List UInt8) (ha : a.length = 32) (hb : b.length = 32) (k : List Nat → α) : fNode (a.map UInt8.toNat) (b.map UInt8.toNat) k = k ((pR a b).map UInt8.toNat) := by
  have hl : (pInput 4 [a, b]).length = 73 := by simp only [pInput, List.length_append, pBig_length, List.flatMap_cons, List.flatMap_nil, pText_len, ha, hb, List.length_nil]
  refine fHash_eq 2 (pInput 4 [a, b]) _ k (by rw [List.length_append, hl, padOf_73]) ?_
  rw [hl, List.map_append, pad73_eq]
  simp only [pInput, List.map_append, List.flatMap_cons, List.flatMap_nil, pText4, ha, hb, big4 32 (by decide), big1 4 (by decide), List.map_nil]
  simp only [List.append_nil, List.append_assoc, List.cons_append, List.nil_append]
/-- Numbers as bytes. -/
def ub (l : List Nat) : List UInt8 := l.map UInt8.ofNat
theorem ub_nat (l : List UInt8) : ub (l.map UInt8.toNat) = l := by
  unfold ub
  rw [List.map_map]
  conv => rhs; rw [← List.map_id l]
  apply List.map_congr_left
  intro x _
  simp
def fId : List Nat → List Nat := fun d => d
theorem word_lit (seed : List UInt8) (hs : seed.length = 32) (x : Nat) (hx : x < 256) (js : List Nat) (hj : ∀ j ∈ js, j < 256) (hl : js.length = 64) (D : List Nat)
    (h : fPubs (seed.map UInt8.toNat) x js (fun ps => fWordOf ps fId) = D) : pWordOf (js.flatMap (pubAt seed x)) = ub D := by
  have hL : ∀ js : List Nat, (js.flatMap (pubAt seed x)).length = 32 * js.length := fun js => by
    induction js with
    | nil => rfl
    | cons j js ih => rw [List.flatMap_cons, List.length_append, ih, List.length_cons]; rw [show (pubAt seed x j).length = 32 from pPublic_length _]; omega
  rw [fPubs_eq seed hs x hx js _ hj, fWordOf_eq _ (by rw [hL, hl])] at h
  rw [← h]
  exact (ub_nat _).symm
theorem node_lit (A B D : List Nat) (hA : (ub A).map UInt8.toNat = A) (hB : (ub B).map UInt8.toNat = B) (la : (ub A).length = 32) (lb : (ub B).length = 32) (h : fNode A B fId = D) : pR (ub A) (ub B) = ub D := by
  have := fNode_eq (ub A) (ub B) la lb fId
  rw [hA, hB] at this
  rw [← h, this]
  exact (ub_nat _).symm
theorem pairs_at (seed : List UInt8) (x : Nat) (d e : List UInt8) (i : Nat) (hi : i < 32) : openAt e (pParts seed x d 32) (pOthers seed x d 32) i = if pBit d i = pBit e i then pubAt seed x (2 * i) ++ pubAt seed x (2 * i + 1) else pubAt seed x (2 * i + 1) ++ pubAt seed x (2 * i) := by
  have h1 : chunk (pParts seed x d 32) i = partAt seed x d i := flat_chunk _ (fun j => pSecret_length _ _ _ _) 32 i hi
  have h2 : chunk (pOthers seed x d 32) i = otherAt seed x d i := flat_chunk _ (fun j => pPublic_length _) 32 i hi
  have hb := pBit_lt d i
  have hc := pBit_lt e i
  unfold openAt
  rw [h1, h2]
  unfold partAt otherAt pubAt
  rw [show 2 * i / 2 = i by omega, show 2 * i % 2 = 0 by omega, show (2 * i + 1) / 2 = i by omega, show (2 * i + 1) % 2 = 1 by omega]
  have hb' : pBit d i = 0 ∨ pBit d i = 1 := by omega
  have hc' : pBit e i = 0 ∨ pBit e i = 1 := by omega
  rcases hb' with hb' | hb' <;> rcases hc' with hc' | hc' <;> rw [hb', hc'] <;> simp
def pairIdx (d e : List UInt8) (i : Nat) : List Nat := if pBit d i = pBit e i then [2 * i, 2 * i + 1] else [2 * i + 1, 2 * i]
theorem open_idx (seed : List UInt8) (x : Nat) (d e : List UInt8) : pOpen e (pParts seed x d 32) (pOthers seed x d 32) 32 = ((List.range 32).flatMap (pairIdx d e)).flatMap (pubAt seed x) := by
  unfold pOpen
  rw [List.flatMap_assoc]
  have : ∀ (l : List Nat), (∀ i ∈ l, i < 32) → l.flatMap (openAt e (pParts seed x d 32) (pOthers seed x d 32)) = l.flatMap fun i => (pairIdx d e i).flatMap (pubAt seed x) := fun l => by
    induction l with
    | nil => intro _; rfl
    | cons i l ih =>
      intro h
      rw [List.flatMap_cons, List.flatMap_cons, ih (fun j hj => h j (by simp [hj])), pairs_at seed x d e i (h i (by simp))]
      congr 1
      unfold pairIdx
      split <;> simp
  exact this _ fun i hi => List.mem_range.1 hi
theorem range64 (seed : List UInt8) (x : Nat) : pWord seed x = pWordOf ((List.range 64).flatMap (pubAt seed x)) := rfl
end Go.Proofs.YtonmccmeljeopaaDoor

namespace Go.Proofs.YtonmccmeljeopaaDoor
open Go.RowKit

def leaf0 : List Nat := [31, 253, 182, 141, 187, 27, 161, 71, 212, 165, 105, 158, 130, 149, 115, 127, 180, 11, 246, 230, 57, 132, 102, 200, 102, 250, 192, 38, 148, 20, 38, 90]
set_option maxRecDepth 100000 in
theorem leaf0_eq : pWord (7 :: List.replicate 31 0) 0 = ub leaf0 :=
  (range64 _ _).trans (word_lit (7 :: List.replicate 31 0) rfl 0 (by decide) (List.range 64) (fun j hj => by have := List.mem_range.1 hj; omega) (by simp) leaf0 (by kernel_rfl))
def leaf1 : List Nat := [75, 24, 41, 86, 102, 97, 78, 17, 239, 129, 133, 237, 173, 223, 239, 179, 223, 197, 143, 208, 230, 219, 107, 167, 157, 161, 212, 65, 62, 74, 248, 210]
set_option maxRecDepth 100000 in
theorem leaf1_eq : pWord (7 :: List.replicate 31 0) 1 = ub leaf1 :=
  (range64 _ _).trans (word_lit (7 :: List.replicate 31 0) rfl 1 (by decide) (List.range 64) (fun j hj => by have := List.mem_range.1 hj; omega) (by simp) leaf1 (by kernel_rfl))
def leaf2 : List Nat := [95, 136, 251, 80, 4, 13, 189, 143, 204, 157, 157, 120, 226, 211, 67, 191, 87, 50, 83, 187, 196, 228, 201, 143, 233, 253, 151, 123, 177, 26, 137, 105]
set_option maxRecDepth 100000 in
theorem leaf2_eq : pWord (7 :: List.replicate 31 0) 2 = ub leaf2 :=
  (range64 _ _).trans (word_lit (7 :: List.replicate 31 0) rfl 2 (by decide) (List.range 64) (fun j hj => by have := List.mem_range.1 hj; omega) (by simp) leaf2 (by kernel_rfl))
def leaf3 : List Nat := [92, 105, 144, 58, 207, 56, 29, 2, 91, 219, 97, 108, 242, 95, 30, 119, 135, 34, 196, 136, 177, 252, 40, 236, 237, 186, 37, 166, 6, 164, 250, 193]
set_option maxRecDepth 100000 in
theorem leaf3_eq : pWord (7 :: List.replicate 31 0) 3 = ub leaf3 :=
  (range64 _ _).trans (word_lit (7 :: List.replicate 31 0) rfl 3 (by decide) (List.range 64) (fun j hj => by have := List.mem_range.1 hj; omega) (by simp) leaf3 (by kernel_rfl))
end Go.Proofs.YtonmccmeljeopaaDoor

namespace Go.Proofs.YtonmccmeljeopaaDoor
open Go.RowKit

def leaf4 : List Nat := [106, 243, 155, 43, 104, 198, 242, 175, 236, 154, 128, 179, 2, 189, 109, 147, 88, 48, 127, 204, 5, 124, 148, 42, 135, 223, 242, 4, 188, 157, 85, 87]
set_option maxRecDepth 100000 in
theorem leaf4_eq : pWord (7 :: List.replicate 31 0) 4 = ub leaf4 :=
  (range64 _ _).trans (word_lit (7 :: List.replicate 31 0) rfl 4 (by decide) (List.range 64) (fun j hj => by have := List.mem_range.1 hj; omega) (by simp) leaf4 (by kernel_rfl))
def leaf5 : List Nat := [224, 105, 70, 93, 194, 57, 191, 3, 135, 116, 199, 242, 54, 45, 190, 174, 254, 238, 109, 39, 34, 255, 181, 147, 154, 210, 21, 126, 245, 203, 139, 2]
set_option maxRecDepth 100000 in
theorem leaf5_eq : pWord (7 :: List.replicate 31 0) 5 = ub leaf5 :=
  (range64 _ _).trans (word_lit (7 :: List.replicate 31 0) rfl 5 (by decide) (List.range 64) (fun j hj => by have := List.mem_range.1 hj; omega) (by simp) leaf5 (by kernel_rfl))
def leaf6 : List Nat := [91, 64, 202, 9, 168, 75, 147, 75, 244, 58, 211, 229, 201, 245, 108, 21, 197, 255, 89, 153, 0, 88, 45, 74, 87, 38, 138, 168, 61, 190, 141, 127]
set_option maxRecDepth 100000 in
theorem leaf6_eq : pWord (7 :: List.replicate 31 0) 6 = ub leaf6 :=
  (range64 _ _).trans (word_lit (7 :: List.replicate 31 0) rfl 6 (by decide) (List.range 64) (fun j hj => by have := List.mem_range.1 hj; omega) (by simp) leaf6 (by kernel_rfl))
def leaf7 : List Nat := [135, 145, 140, 33, 64, 73, 99, 146, 223, 88, 254, 105, 213, 85, 204, 238, 79, 34, 114, 39, 154, 236, 183, 54, 106, 53, 109, 45, 18, 108, 195, 196]
set_option maxRecDepth 100000 in
theorem leaf7_eq : pWord (7 :: List.replicate 31 0) 7 = ub leaf7 :=
  (range64 _ _).trans (word_lit (7 :: List.replicate 31 0) rfl 7 (by decide) (List.range 64) (fun j hj => by have := List.mem_range.1 hj; omega) (by simp) leaf7 (by kernel_rfl))
end Go.Proofs.YtonmccmeljeopaaDoor

namespace Go.Proofs.YtonmccmeljeopaaDoor
open Go.RowKit

def leaf8 : List Nat := [147, 12, 39, 40, 31, 106, 154, 91, 94, 36, 15, 171, 140, 78, 217, 149, 92, 224, 13, 22, 240, 72, 214, 139, 168, 196, 85, 124, 182, 163, 124, 235]
set_option maxRecDepth 100000 in
theorem leaf8_eq : pWord (7 :: List.replicate 31 0) 8 = ub leaf8 :=
  (range64 _ _).trans (word_lit (7 :: List.replicate 31 0) rfl 8 (by decide) (List.range 64) (fun j hj => by have := List.mem_range.1 hj; omega) (by simp) leaf8 (by kernel_rfl))
def leaf9 : List Nat := [26, 222, 177, 174, 214, 218, 94, 62, 159, 64, 146, 201, 45, 9, 115, 111, 163, 205, 119, 76, 135, 215, 133, 15, 42, 89, 51, 137, 5, 253, 134, 61]
set_option maxRecDepth 100000 in
theorem leaf9_eq : pWord (7 :: List.replicate 31 0) 9 = ub leaf9 :=
  (range64 _ _).trans (word_lit (7 :: List.replicate 31 0) rfl 9 (by decide) (List.range 64) (fun j hj => by have := List.mem_range.1 hj; omega) (by simp) leaf9 (by kernel_rfl))
def leaf10 : List Nat := [131, 87, 183, 74, 253, 153, 197, 93, 102, 237, 126, 153, 216, 234, 196, 37, 42, 207, 40, 40, 168, 251, 125, 146, 72, 242, 51, 172, 200, 118, 200, 15]
set_option maxRecDepth 100000 in
theorem leaf10_eq : pWord (7 :: List.replicate 31 0) 10 = ub leaf10 :=
  (range64 _ _).trans (word_lit (7 :: List.replicate 31 0) rfl 10 (by decide) (List.range 64) (fun j hj => by have := List.mem_range.1 hj; omega) (by simp) leaf10 (by kernel_rfl))
def leaf11 : List Nat := [10, 165, 39, 23, 137, 159, 97, 41, 119, 91, 25, 231, 78, 148, 4, 52, 46, 59, 160, 109, 230, 148, 57, 193, 96, 61, 103, 42, 24, 100, 149, 96]
set_option maxRecDepth 100000 in
theorem leaf11_eq : pWord (7 :: List.replicate 31 0) 11 = ub leaf11 :=
  (range64 _ _).trans (word_lit (7 :: List.replicate 31 0) rfl 11 (by decide) (List.range 64) (fun j hj => by have := List.mem_range.1 hj; omega) (by simp) leaf11 (by kernel_rfl))
end Go.Proofs.YtonmccmeljeopaaDoor

namespace Go.Proofs.YtonmccmeljeopaaDoor
open Go.RowKit

def leaf12 : List Nat := [40, 114, 73, 6, 91, 111, 92, 239, 20, 216, 141, 35, 80, 128, 51, 80, 116, 235, 117, 187, 66, 39, 42, 46, 133, 180, 200, 151, 20, 190, 16, 145]
set_option maxRecDepth 100000 in
theorem leaf12_eq : pWord (7 :: List.replicate 31 0) 12 = ub leaf12 :=
  (range64 _ _).trans (word_lit (7 :: List.replicate 31 0) rfl 12 (by decide) (List.range 64) (fun j hj => by have := List.mem_range.1 hj; omega) (by simp) leaf12 (by kernel_rfl))
def leaf13 : List Nat := [91, 21, 255, 61, 198, 61, 59, 65, 220, 95, 49, 22, 12, 246, 69, 87, 143, 180, 171, 108, 191, 210, 68, 143, 211, 129, 43, 35, 18, 17, 79, 135]
set_option maxRecDepth 100000 in
theorem leaf13_eq : pWord (7 :: List.replicate 31 0) 13 = ub leaf13 :=
  (range64 _ _).trans (word_lit (7 :: List.replicate 31 0) rfl 13 (by decide) (List.range 64) (fun j hj => by have := List.mem_range.1 hj; omega) (by simp) leaf13 (by kernel_rfl))
def leaf14 : List Nat := [219, 246, 252, 51, 126, 120, 217, 75, 148, 66, 57, 142, 10, 21, 255, 114, 29, 219, 28, 211, 40, 71, 95, 47, 188, 200, 214, 159, 204, 109, 96, 176]
set_option maxRecDepth 100000 in
theorem leaf14_eq : pWord (7 :: List.replicate 31 0) 14 = ub leaf14 :=
  (range64 _ _).trans (word_lit (7 :: List.replicate 31 0) rfl 14 (by decide) (List.range 64) (fun j hj => by have := List.mem_range.1 hj; omega) (by simp) leaf14 (by kernel_rfl))
def leaf15 : List Nat := [104, 199, 249, 48, 9, 234, 44, 162, 191, 94, 140, 11, 226, 64, 100, 137, 195, 71, 210, 159, 212, 9, 102, 66, 168, 237, 238, 141, 61, 188, 244, 255]
set_option maxRecDepth 100000 in
theorem leaf15_eq : pWord (7 :: List.replicate 31 0) 15 = ub leaf15 :=
  (range64 _ _).trans (word_lit (7 :: List.replicate 31 0) rfl 15 (by decide) (List.range 64) (fun j hj => by have := List.mem_range.1 hj; omega) (by simp) leaf15 (by kernel_rfl))
end Go.Proofs.YtonmccmeljeopaaDoor

namespace Go.Proofs.YtonmccmeljeopaaDoor
open Go.RowKit

def other0 : List Nat := [76, 28, 114, 72, 90, 85, 9, 73, 22, 119, 218, 145, 33, 234, 21, 75, 29, 8, 34, 214, 255, 46, 3, 185, 218, 76, 89, 109, 233, 204, 255, 39]
def dig1 : List UInt8 := 1 :: List.replicate 31 0
def dig2 : List UInt8 := 2 :: List.replicate 31 0
theorem idx12 : (List.range 32).flatMap (pairIdx dig1 dig2) = [0, 1, 2, 3, 4, 5, 6, 7, 8, 9, 10, 11, 13, 12, 15, 14, 16, 17, 18, 19, 20, 21, 22, 23, 24, 25, 26, 27, 28, 29, 30, 31, 32, 33, 34, 35, 36, 37, 38, 39, 40, 41, 42, 43, 44, 45, 46, 47, 48, 49, 50, 51, 52, 53, 54, 55, 56, 57, 58, 59, 60, 61, 62, 63] := by decide +kernel
set_option maxRecDepth 100000 in
theorem other0_eq : pWordOf (pOpen dig2 (pParts (7 :: List.replicate 31 0) 0 dig1 32) (pOthers (7 :: List.replicate 31 0) 0 dig1 32) 32) = ub other0 := by
  rw [open_idx, idx12]
  exact word_lit (7 :: List.replicate 31 0) rfl 0 (by decide) [0, 1, 2, 3, 4, 5, 6, 7, 8, 9, 10, 11, 13, 12, 15, 14, 16, 17, 18, 19, 20, 21, 22, 23, 24, 25, 26, 27, 28, 29, 30, 31, 32, 33, 34, 35, 36, 37, 38, 39, 40, 41, 42, 43, 44, 45, 46, 47, 48, 49, 50, 51, 52, 53, 54, 55, 56, 57, 58, 59, 60, 61, 62, 63] (by decide) (by decide) other0 (by kernel_rfl)
def node1_0 : List Nat := [85, 10, 70, 209, 84, 232, 191, 89, 49, 17, 38, 10, 156, 105, 197, 29, 209, 205, 121, 16, 141, 148, 226, 13, 236, 101, 159, 39, 143, 149, 238, 151]
theorem node1_0_eq : pR (ub leaf0) (ub leaf1) = ub node1_0 := node_lit leaf0 leaf1 node1_0 (by decide +kernel) (by decide +kernel) (by decide +kernel) (by decide +kernel) (by kernel_rfl)
def node1_1 : List Nat := [18, 133, 93, 108, 100, 243, 102, 57, 107, 156, 125, 36, 152, 248, 52, 79, 101, 111, 180, 244, 53, 129, 200, 34, 39, 111, 105, 135, 17, 195, 229, 204]
theorem node1_1_eq : pR (ub leaf2) (ub leaf3) = ub node1_1 := node_lit leaf2 leaf3 node1_1 (by decide +kernel) (by decide +kernel) (by decide +kernel) (by decide +kernel) (by kernel_rfl)
def node1_2 : List Nat := [39, 149, 179, 153, 140, 48, 26, 173, 26, 64, 135, 150, 158, 15, 103, 193, 229, 138, 60, 47, 69, 3, 110, 4, 101, 97, 207, 245, 83, 136, 112, 233]
theorem node1_2_eq : pR (ub leaf4) (ub leaf5) = ub node1_2 := node_lit leaf4 leaf5 node1_2 (by decide +kernel) (by decide +kernel) (by decide +kernel) (by decide +kernel) (by kernel_rfl)
def node1_3 : List Nat := [170, 89, 7, 94, 77, 31, 28, 166, 216, 207, 77, 146, 86, 202, 53, 252, 162, 220, 112, 62, 1, 128, 124, 99, 247, 69, 181, 67, 102, 94, 154, 55]
theorem node1_3_eq : pR (ub leaf6) (ub leaf7) = ub node1_3 := node_lit leaf6 leaf7 node1_3 (by decide +kernel) (by decide +kernel) (by decide +kernel) (by decide +kernel) (by kernel_rfl)
def node1_4 : List Nat := [210, 110, 24, 186, 103, 36, 215, 102, 93, 176, 250, 189, 75, 146, 217, 210, 26, 48, 94, 212, 46, 116, 8, 221, 39, 147, 112, 116, 15, 6, 204, 39]
theorem node1_4_eq : pR (ub leaf8) (ub leaf9) = ub node1_4 := node_lit leaf8 leaf9 node1_4 (by decide +kernel) (by decide +kernel) (by decide +kernel) (by decide +kernel) (by kernel_rfl)
def node1_5 : List Nat := [228, 167, 122, 155, 197, 122, 17, 5, 99, 4, 82, 209, 161, 154, 87, 163, 241, 48, 220, 87, 52, 167, 162, 213, 117, 79, 218, 154, 23, 164, 140, 174]
theorem node1_5_eq : pR (ub leaf10) (ub leaf11) = ub node1_5 := node_lit leaf10 leaf11 node1_5 (by decide +kernel) (by decide +kernel) (by decide +kernel) (by decide +kernel) (by kernel_rfl)
def node1_6 : List Nat := [101, 250, 36, 198, 57, 178, 49, 200, 175, 225, 197, 252, 13, 45, 108, 10, 192, 222, 49, 27, 228, 51, 164, 211, 198, 178, 195, 131, 130, 115, 236, 63]
theorem node1_6_eq : pR (ub leaf12) (ub leaf13) = ub node1_6 := node_lit leaf12 leaf13 node1_6 (by decide +kernel) (by decide +kernel) (by decide +kernel) (by decide +kernel) (by kernel_rfl)
def node1_7 : List Nat := [141, 170, 44, 160, 163, 222, 250, 214, 159, 215, 163, 181, 118, 254, 242, 55, 38, 30, 187, 72, 140, 94, 94, 150, 151, 143, 23, 122, 110, 197, 141, 253]
theorem node1_7_eq : pR (ub leaf14) (ub leaf15) = ub node1_7 := node_lit leaf14 leaf15 node1_7 (by decide +kernel) (by decide +kernel) (by decide +kernel) (by decide +kernel) (by kernel_rfl)
def node2_0 : List Nat := [254, 56, 198, 13, 220, 138, 102, 182, 115, 154, 166, 29, 203, 148, 70, 63, 163, 54, 99, 95, 208, 23, 215, 67, 118, 115, 145, 124, 162, 118, 220, 154]
theorem node2_0_eq : pR (ub node1_0) (ub node1_1) = ub node2_0 := node_lit node1_0 node1_1 node2_0 (by decide +kernel) (by decide +kernel) (by decide +kernel) (by decide +kernel) (by kernel_rfl)
def node2_1 : List Nat := [46, 76, 168, 82, 118, 57, 58, 229, 173, 39, 177, 188, 91, 115, 114, 160, 182, 1, 11, 24, 55, 47, 121, 250, 230, 255, 0, 134, 160, 170, 123, 200]
theorem node2_1_eq : pR (ub node1_2) (ub node1_3) = ub node2_1 := node_lit node1_2 node1_3 node2_1 (by decide +kernel) (by decide +kernel) (by decide +kernel) (by decide +kernel) (by kernel_rfl)
def node2_2 : List Nat := [239, 89, 93, 214, 116, 182, 144, 230, 0, 81, 113, 214, 75, 69, 116, 184, 127, 110, 90, 233, 84, 247, 199, 66, 70, 253, 49, 81, 134, 78, 158, 5]
theorem node2_2_eq : pR (ub node1_4) (ub node1_5) = ub node2_2 := node_lit node1_4 node1_5 node2_2 (by decide +kernel) (by decide +kernel) (by decide +kernel) (by decide +kernel) (by kernel_rfl)
def node2_3 : List Nat := [5, 138, 121, 119, 71, 241, 55, 196, 137, 20, 43, 123, 61, 238, 104, 79, 6, 155, 124, 203, 201, 86, 224, 121, 171, 35, 209, 78, 145, 134, 212, 116]
theorem node2_3_eq : pR (ub node1_6) (ub node1_7) = ub node2_3 := node_lit node1_6 node1_7 node2_3 (by decide +kernel) (by decide +kernel) (by decide +kernel) (by decide +kernel) (by kernel_rfl)
def node3_0 : List Nat := [132, 137, 197, 1, 93, 190, 129, 10, 109, 149, 146, 58, 174, 251, 188, 154, 247, 88, 217, 227, 62, 188, 216, 96, 188, 31, 131, 98, 237, 157, 114, 202]
theorem node3_0_eq : pR (ub node2_0) (ub node2_1) = ub node3_0 := node_lit node2_0 node2_1 node3_0 (by decide +kernel) (by decide +kernel) (by decide +kernel) (by decide +kernel) (by kernel_rfl)
def node3_1 : List Nat := [2, 210, 221, 109, 127, 178, 119, 207, 186, 252, 95, 211, 65, 226, 174, 198, 230, 142, 74, 58, 204, 190, 214, 55, 42, 69, 105, 150, 46, 51, 30, 36]
theorem node3_1_eq : pR (ub node2_2) (ub node2_3) = ub node3_1 := node_lit node2_2 node2_3 node3_1 (by decide +kernel) (by decide +kernel) (by decide +kernel) (by decide +kernel) (by kernel_rfl)
def node4_0 : List Nat := [210, 6, 81, 75, 212, 43, 222, 204, 39, 244, 25, 64, 29, 199, 84, 32, 68, 133, 103, 45, 244, 190, 133, 148, 109, 250, 193, 223, 48, 55, 254, 110]
theorem node4_0_eq : pR (ub node3_0) (ub node3_1) = ub node4_0 := node_lit node3_0 node3_1 node4_0 (by decide +kernel) (by decide +kernel) (by decide +kernel) (by decide +kernel) (by kernel_rfl)
def climb1 : List Nat := [106, 234, 159, 174, 84, 122, 231, 115, 34, 175, 169, 148, 6, 132, 126, 183, 186, 63, 203, 45, 85, 151, 25, 44, 227, 96, 35, 136, 211, 206, 140, 96]
theorem climb1_eq : pR (ub other0) (ub leaf1) = ub climb1 := node_lit other0 leaf1 climb1 (by decide +kernel) (by decide +kernel) (by decide +kernel) (by decide +kernel) (by kernel_rfl)
def climb2 : List Nat := [225, 186, 190, 220, 102, 228, 188, 196, 221, 177, 89, 86, 72, 135, 17, 117, 80, 219, 78, 170, 55, 221, 28, 157, 156, 42, 123, 160, 216, 60, 206, 96]
theorem climb2_eq : pR (ub climb1) (ub node1_1) = ub climb2 := node_lit climb1 node1_1 climb2 (by decide +kernel) (by decide +kernel) (by decide +kernel) (by decide +kernel) (by kernel_rfl)
def climb3 : List Nat := [220, 199, 113, 7, 38, 149, 95, 103, 195, 18, 28, 170, 167, 79, 37, 152, 95, 241, 126, 75, 74, 11, 152, 57, 119, 96, 40, 103, 79, 94, 121, 67]
theorem climb3_eq : pR (ub climb2) (ub node2_1) = ub climb3 := node_lit climb2 node2_1 climb3 (by decide +kernel) (by decide +kernel) (by decide +kernel) (by decide +kernel) (by kernel_rfl)
def climb4 : List Nat := [219, 149, 184, 113, 202, 190, 176, 184, 170, 252, 20, 178, 247, 218, 77, 152, 125, 241, 230, 40, 92, 38, 169, 6, 142, 0, 65, 49, 199, 19, 160, 96]
theorem climb4_eq : pR (ub climb3) (ub node3_1) = ub climb4 := node_lit climb3 node3_1 climb4 (by decide +kernel) (by decide +kernel) (by decide +kernel) (by decide +kernel) (by kernel_rfl)
set_option maxRecDepth 100000 in
theorem root16 (l0 l1 l2 l3 l4 l5 l6 l7 l8 l9 l10 l11 l12 l13 l14 l15 : List UInt8) : kRoot [l0, l1, l2, l3, l4, l5, l6, l7, l8, l9, l10, l11, l12, l13, l14, l15] = pR (pR (pR (pR l0 l1) (pR l2 l3)) (pR (pR l4 l5) (pR l6 l7))) (pR (pR (pR l8 l9) (pR l10 l11)) (pR (pR l12 l13) (pR l14 l15))) := by kernel_rfl
set_option maxRecDepth 100000 in
theorem path16 (l0 l1 l2 l3 l4 l5 l6 l7 l8 l9 l10 l11 l12 l13 l14 l15 : List UInt8) : kPath [l0, l1, l2, l3, l4, l5, l6, l7, l8, l9, l10, l11, l12, l13, l14, l15] 0 = [l1, (pR l2 l3), (pR (pR l4 l5) (pR l6 l7)), (pR (pR (pR l8 l9) (pR l10 l11)) (pR (pR l12 l13) (pR l14 l15)))] := by kernel_rfl
theorem kclimb4 (w p0 p1 p2 p3 : List UInt8) : kClimb w 0 [p0, p1, p2, p3] 4 = pR (pR (pR (pR w p0) p1) p2) p3 := rfl
theorem leaves7 : pLeaves (7 :: List.replicate 31 0) = [ub leaf0, ub leaf1, ub leaf2, ub leaf3, ub leaf4, ub leaf5, ub leaf6, ub leaf7, ub leaf8, ub leaf9, ub leaf10, ub leaf11, ub leaf12, ub leaf13, ub leaf14, ub leaf15] := by
  show [pWord (7 :: List.replicate 31 0) 0, pWord (7 :: List.replicate 31 0) 1, pWord (7 :: List.replicate 31 0) 2, pWord (7 :: List.replicate 31 0) 3, pWord (7 :: List.replicate 31 0) 4, pWord (7 :: List.replicate 31 0) 5, pWord (7 :: List.replicate 31 0) 6, pWord (7 :: List.replicate 31 0) 7, pWord (7 :: List.replicate 31 0) 8, pWord (7 :: List.replicate 31 0) 9, pWord (7 :: List.replicate 31 0) 10, pWord (7 :: List.replicate 31 0) 11, pWord (7 :: List.replicate 31 0) 12, pWord (7 :: List.replicate 31 0) 13, pWord (7 :: List.replicate 31 0) 14, pWord (7 :: List.replicate 31 0) 15] = _
  rw [leaf0_eq, leaf1_eq, leaf2_eq, leaf3_eq, leaf4_eq, leaf5_eq, leaf6_eq, leaf7_eq, leaf8_eq, leaf9_eq, leaf10_eq, leaf11_eq, leaf12_eq, leaf13_eq, leaf14_eq, leaf15_eq]
theorem root7 : kRoot (pLeaves (7 :: List.replicate 31 0)) = ub node4_0 := by
  rw [leaves7, root16, node1_0_eq, node1_1_eq, node1_2_eq, node1_3_eq, node1_4_eq, node1_5_eq, node1_6_eq, node1_7_eq, node2_0_eq, node2_1_eq, node2_2_eq, node2_3_eq, node3_0_eq, node3_1_eq, node4_0_eq]
theorem climb7 : kClimb (pWordOf (pOpen dig2 (pParts (7 :: List.replicate 31 0) 0 dig1 32) (pOthers (7 :: List.replicate 31 0) 0 dig1 32) 32)) 0 (kPath (pLeaves (7 :: List.replicate 31 0)) 0) 4 = ub climb4 := by
  rw [other0_eq, leaves7, path16, kclimb4, node1_1_eq, node1_2_eq, node1_3_eq, node2_1_eq, node1_4_eq, node1_5_eq, node1_6_eq, node1_7_eq, node2_2_eq, node2_3_eq, node3_1_eq, climb1_eq, climb2_eq, climb3_eq, climb4_eq]
theorem other7 : kClimb (pWordOf (pOpen dig2 (pParts (7 :: List.replicate 31 0) 0 dig1 32) (pOthers (7 :: List.replicate 31 0) 0 dig1 32) 32)) 0 (kPath (pLeaves (7 :: List.replicate 31 0)) 0) 4 ≠ kRoot (pLeaves (7 :: List.replicate 31 0)) := by
  rw [climb7, root7]
  decide +kernel
end Go.Proofs.YtonmccmeljeopaaDoor

namespace Go.Proofs.YtonmccmeljeopaaDoor
open Go Go.RowKit
set_option linter.unusedSimpArgs false
set_option linter.unusedVariables false

theorem wpQuiet_build_to {P : Program} {ops : Array Oper} {C : World → Prop} {Q : Act → Prop} {a : Act} {o : Oper} {rest : List Oper} (hw : Region.wanted o (yielded ops a.tmps) = true) (t : TypeId) (parts : Array (Nat × Operand)) (ho : o.op = .build t parts) (cells : Array Value)
    (hb : P.built t (parts.toList.map fun (i, x) => (i, a.eval x)) = some cells) (h : wpQuiet P ops C Q rest (a.put o.dst (.agg cells))) : wpQuiet P ops C Q (o :: rest) a := by
  rw [← Array.toList_map] at hb
  show if _ then _ else _
  rw [if_pos hw]
  refine ⟨.agg cells, fun w hC => ?_, h⟩
  unfold Oper.quietAt execOp
  simp only [ho, Sem.run_bind, run_build w t _ cells hb, Result.andThen_ok]
  exact ⟨rfl, rfl⟩
theorem pLeaves_get (seed : List UInt8) (x : Nat) (hx : x < 16) : (pLeaves seed).getD x [] = pWord seed x := by
  simp [pLeaves, List.getD_eq_getElem?_getD, hx]
set_option maxHeartbeats 8000000 in
set_option maxRecDepth 100000 in
theorem kawake_of (S1 A1 A2 : List UInt8) (h1 : S1.length = 32) (h2 : A1.length = 32) (h3 : A2.length = 32) (hb1 : Tryd.prog.built 23 [(0, .int .u8 7)] = some (bc S1)) (hb2 : Tryd.prog.built 23 [(0, .int .u8 1)] = some (bc A1)) (hb3 : Tryd.prog.built 23 [(0, .int .u8 2)] = some (bc A2))
    (hne : kClimb (pWordOf (pOpen A2 (pParts S1 0 A1 32) (pOthers S1 0 A1 32) 32)) 0 (kPath (pLeaves S1) 0) 4 ≠ kRoot (pLeaves S1)) (w : World) (tabs : Tabs w) :
    Calls Tryd.prog 4 #[] w fun e w' => e = .returned (.bool true) ∧ Below w.heap.size w w' := by
  have e0 : ((0 : Nat) : Int) = 0 := rfl
  have e1 : ((1 : Nat) : Int) = 1 := rfl
  have cn := hide fun W t => new_calls S1 h1 W t
  have cu0 := fun b off c W hD t => ksign_calls S1 h1 0 (by decide) (pLeaves S1) (pLeaves_len S1) b off c A1 h2 W hD t
  rw [e0] at cu0
  have cu := hide cu0
  have cr := hide fun n p c W hD t => kroot_calls S1 h1 n (pLeaves S1) (pLeaves_len S1) p c W hD t
  have cv := hide fun B cs W hS t => verify_true S1 A1 h1 h2 (pLeaves S1) (pLeaves_len S1) (pLeaves_32 S1) 0 (by decide) (pLeaves_get S1 0 (by decide)) B cs W hS t
  have cf0 := fun B cs W hS t => verify_at S1 A1 h1 h2 A2 h3 (pLeaves S1) (pLeaves_len S1) (pLeaves_32 S1) 0 (by decide) B cs W hS t
  rw [decide_eq_false hne] at cf0
  have cf := hide cf0
  have hsi := hide fun n v => sgc_info S1 h1 n v
  have hso := hide fun n p l c => sgc_one S1 n p l c
  have hsz := hide fun n v => sg0_size S1 h1 n v
  have hsn := hide fun n v => sgc_next S1 h1 n v
  have HB1 := hide hb1
  have HB2 := hide hb2
  have HB3 := hide hb3
  have HT := hide tabs
  clear hne cf0 cu0
  generalize kRoot (pLeaves S1) = RT at *
  generalize pLeaves S1 = LV at *
  clear e0 e1 hb1 hb2 hb3 tabs h2 h3
  go_enter Tryd.func4, Tryd.ntmps4
  go_wp2_with (refine wpList_build_to rfl 23 #[(0, .const (.int .u8 7))] rfl (bc S1) (unhide HB1) ?_)
  refine (unhide cn _ (unhide HT)).mono ?_
  rintro e w1 ⟨rfl, hD1, b1⟩
  obtain ⟨G0, hG0⟩ : ∃ G, w.heap.size + 1 + 1 = G := ⟨_, rfl⟩
  rw [hG0] at hD1
  rw [hG0]
  have i1 := unhide hsi 0 (.slice (some ⟨G0, 0, none⟩) 16 16)
  have o1 := unhide hso 0 (some ⟨G0, 0, none⟩) 16 16
  have z1 := unhide hsz 0 (.slice (some ⟨G0, 0, none⟩) 16 16)
  obtain ⟨C1, hC1⟩ : ∃ C, sgc S1 0 (.slice (some ⟨G0, 0, none⟩) 16 16) = C := ⟨_, rfl⟩
  have cu1 := unhide cu G0 0 16
  have cr1 := unhide cr 0 (some ⟨G0, 0, none⟩) 16
  rw [hC1] at i1 o1 z1 cu1 cr1
  rw [hC1]
  have CU := hide cu1
  have CR := hide cr1
  clear hG0 hC1 cu1 cr1
  go_wp2_with (first
    | (refine wpList_store_newV rfl 31 (.tmp 1) (.tmp 6) rfl w1 sg0 _ C1 rfl rfl i1 z1 o1 ?_; intro w2 q2 b2 zz2)
    | (refine wpList_load_row rfl 31 (.tmp 1) rfl w1.heap.size rfl 31 C1 (0, 0) _ q2 Tryd.underlying31 rfl i1 ?_)
    | (refine wpList_build_to rfl 23 #[(0, .const (.int .u8 1))] rfl (bc A1) (unhide HB2) ?_))
  have bW2 : Below w.heap.size w w2 := b1.trans (b2.mono b1.size)
  have hD2 := hD1.below b2 (Nat.le_refl _)
  refine (unhide CU _ hD2 ((unhide HT).below bW2 (Nat.le_refl _))).mono ?_
  rintro e w3 ⟨⟨gc, cap, cs, rfl, hgc, hDc, hSc⟩, b3⟩
  have bW3 : Below w.heap.size w w3 := bW2.trans (b3.mono bW2.size)
  have q3 := Below.at b3 (Array.getElem?_eq_some_iff.1 q2).1 q2
  have zq3 := (Array.getElem?_eq_some_iff.1 q3).1
  have hD3 := hD2.below b3 (Nat.le_refl _)
  have hcz := hSc.size
  have hx0 : cs[0]? = some (.int .i64 0) := by
    obtain ⟨g, gp, _, _, e, _⟩ := hSc.ex
    rw [e]; rfl
  have hui : (Tryd.prog.info? 26).map (·.size) = some cs.size := sig_info cs hcz.1
  have huq : sigZ.size = cs.size := by rw [hcz.1]; rfl
  have huo := hcz.2
  have i2 := unhide hsi (0 + 1) (.slice (some ⟨gc, 0, none⟩) 16 cap)
  have o2 := unhide hso (0 + 1) (some ⟨gc, 0, none⟩) 16 cap
  have z2 := unhide hsz (0 + 1) (.slice (some ⟨gc, 0, none⟩) 16 cap)
  have n2 := unhide hsn (0 + 1) (.slice (some ⟨gc, 0, none⟩) 16 cap)
  obtain ⟨C2, hC2⟩ : ∃ C, sgc S1 (0 + 1) (.slice (some ⟨gc, 0, none⟩) 16 cap) = C := ⟨_, rfl⟩
  have kv := unhide cv w2.heap.size cs
  have kf := unhide cf w2.heap.size cs
  rw [hC2] at i2 o2 z2 n2
  rw [hC2]
  have KV := hide kv
  have KF := hide kf
  have HS3 := hide hSc
  have HX0 := hide hx0
  have N2 := hide n2
  obtain ⟨a0, a1⟩ := al2 w3 (.cells sg0 31) (.cells sigZ 26)
  have s1 := (setRow_other ((w3.alloc (.cells sg0 31)).alloc (.cells sigZ 26)) w3.heap.size (w3.heap.size + 1) C2 (by omega)).trans a1
  have s0 := (setRow_other (((w3.alloc (.cells sg0 31)).alloc (.cells sigZ 26)).setRow w3.heap.size C2) (w3.heap.size + 1) w3.heap.size cs (by omega)).trans (setRow_heap _ _ _ C2 _ _ a0)
  have s2 := setRow_heap _ _ _ cs _ _ s1
  have bX : Below w3.heap.size w3 ((((w3.alloc (.cells sg0 31)).alloc (.cells sigZ 26)).setRow w3.heap.size C2).setRow (w3.heap.size + 1) cs) := below_setRow (below_setRow (bel2 w3 _ _) (Nat.le_refl _) _) (by omega) _
  clear hcz hC2 kv kf hSc b3 b2 bW2 hD1 hD2 q2 hDc hgc hx0 n2 cn cu cr cv cf hsi hso hsz hsn
  go_upto_region 3 with (first
    | (refine wpList_store_row rfl 31 (.tmp 2) (.tmp 11) rfl w3.heap.size C2 rfl rfl 31 _ a0 i2 z2 o2 ?_)
    | (refine wpList_store_row rfl 26 (.tmp 3) (.tmp 12) rfl (w3.heap.size + 1) cs rfl rfl 26 _ s1 hui huq huo ?_))
  obtain ⟨X, hX⟩ : ∃ X, (((w3.alloc (.cells sg0 31)).alloc (.cells sigZ 26)).setRow w3.heap.size C2).setRow (w3.heap.size + 1) cs = X := ⟨_, rfl⟩
  change Code.wp _ _ _ _ ((((w3.alloc (.cells sg0 31)).alloc (.cells sigZ 26)).setRow w3.heap.size C2).setRow (w3.heap.size + 1) cs)
  rw [hX] at s0 s2 bX
  rw [hX]
  have bWX : Below w.heap.size w X := bW3.trans (bX.mono bW3.size)
  have qX := Below.at bX zq3 q3
  have hDX := hD3.below bX (Nat.le_refl _)
  have hSX := (unhide HS3).below bX
  have tX := (unhide HT).below bWX (Nat.le_refl _)
  obtain ⟨G1, hG1⟩ : ∃ G, w1.heap.size = G := ⟨_, rfl⟩
  obtain ⟨G2, hG2⟩ : ∃ G, w3.heap.size = G := ⟨_, rfl⟩
  rw [hG1] at qX
  rw [hG2] at s0 s2
  rw [hG1, hG2]
  have zs0 := (Array.getElem?_eq_some_iff.1 s0).1
  have zs2 := (Array.getElem?_eq_some_iff.1 s2).1
  have R1 : Hid (∀ w', (∃ p : Regrown, w' = Sort.grow (redrawn X p.d) p.os) → w'.heap[G1]? = some (.cells C1 31 (0, 0))) := fun w' ⟨p, hp⟩ => by rw [hp]; exact Below.at (below_regrown X p.d p.os) (Array.getElem?_eq_some_iff.1 qX).1 qX
  have R3 : Hid (∀ w', (∃ p : Regrown, w' = Sort.grow (redrawn X p.d) p.os) → w'.heap[G2 + 1]? = some (.cells cs 26 (0, 0))) := fun w' ⟨p, hp⟩ => by rw [hp]; exact Below.at (below_regrown X p.d p.os) zs2 s2
  have d0 : ∀ d os, (Sort.grow (redrawn X d) os).cell? ⟨G2, 32, none⟩ = some (.int .i64 (0 + 1)) := fun d os => by
    rw [(below_regrown X d os).cell (p := ⟨G2, 32, none⟩) zs0, cell_of_row _ _ _ _ _ _ s0]; exact unhide N2
  have d3 : ∀ d os, (Sort.grow (redrawn X d) os).cell? ⟨G2 + 1, 0, none⟩ = some (.int .i64 0) := fun d os => by
    rw [(below_regrown X d os).cell (p := ⟨G2 + 1, 0, none⟩) zs2, cell_of_row _ _ _ _ _ _ s2]; exact unhide HX0
  have kR := hide fun d os => Calls.regrown_of (w := X) (d := d) (os := os) (unhide CR _ (hDX.below (below_regrown X d os) (Nat.le_refl _)) (tX.below (below_regrown X d os) (Nat.le_refl _)))
  have kV := hide fun d os => Calls.regrown_of (w := X) (d := d) (os := os) (unhide KV _ (hSX.below (below_regrown X d os)) (tX.below (below_regrown X d os) (Nat.le_refl _)))
  have kF := hide fun d os => Calls.regrown_of (w := X) (d := d) (os := os) (unhide KF _ (hSX.below (below_regrown X d os)) (tX.below (below_regrown X d os) (Nat.le_refl _)))
  clear hX s0 s1 s2 a0 a1 bX qX hDX hSX tX hG1 hG2 zq3 q3 hD3 bW3 CU CR KV KF zs0 zs2 N2 HX0
  refine wp_region_below mixed (by kernel_rfl) ?_
  iterate 13 quiet_step (fail)
  refine wpQuiet_load_row rfl 31 (.tmp 1) rfl G1 rfl 31 C1 (0, 0) _ (unhide R1) Tryd.underlying31 rfl i1 ?_
  quiet_step (exact unhide kR _ _)
  refine wpQuiet_build_to rfl 23 #[(0, .const (.int .u8 1))] rfl (bc A1) (unhide HB2) ?_
  refine wpQuiet_load_row rfl 26 (.tmp 3) rfl (G2 + 1) rfl 26 cs (0, 0) _ (unhide R3) Tryd.underlying26 rfl hui ?_
  quiet_step (exact unhide kV _ _)
  quiet_step (fail)
  quiet_step (fail)
  refine wpQuiet_load_row rfl 31 (.tmp 1) rfl G1 rfl 31 C1 (0, 0) _ (unhide R1) Tryd.underlying31 rfl i1 ?_
  quiet_step (exact unhide kR _ _)
  refine wpQuiet_build_to rfl 23 #[(0, .const (.int .u8 2))] rfl (bc A2) (unhide HB3) ?_
  refine wpQuiet_load_row rfl 26 (.tmp 3) rfl (G2 + 1) rfl 26 cs (0, 0) _ (unhide R3) Tryd.underlying26 rfl hui ?_
  quiet_step (exact unhide kF _ _)
  repeat (quiet_step (fail))
  refine wpQuiet_nil ?_
  intro w5 b5
  go_wp2
  go_ret
  exact ⟨rfl, bWX.trans (b5.mono bWX.size)⟩
theorem kawake_calls (w : World) (tabs : Tabs w) : Calls Tryd.prog 4 #[] w fun e w' => e = .returned (.bool true) ∧ Below w.heap.size w w' :=
  kawake_of (7 :: List.replicate 31 0) dig1 dig2 (by simp) (by kernel_rfl) (by kernel_rfl) (by kernel_rfl) (by kernel_rfl) (by kernel_rfl) other7 w tabs
end Go.Proofs.YtonmccmeljeopaaDoor

namespace Go.Proofs.YtonmccmeljeopaaDoor
open Go Go.RowKit

theorem wpList_load_row_gd {P : Program} {ops : Array Oper} {rest : List Oper} {o : Oper} {a : Act} {w : World} {Q : Exit → Act → World → Prop} (hw : Region.wanted o (yielded ops a.tmps) = true) (ty : TypeId) (x : Operand) (ho : o.op = .load ty x)
    (g : Nat) (hx : a.eval x = .pointer (some ⟨g, 0, none⟩)) (t : TypeId) (cs : Array Value) (fr : Nat × Nat) (d : TypeDesc) (hg : w.heap[g]? = some (.cells cs t fr))
    (hu : P.underlying ty = some d) (hd : (match d with | .struct _ | .array _ _ => true | _ => false) = true) (hi : (P.info? ty).map (·.size) = some cs.size)
    (h : wpList P ops Q rest (a.put o.dst (.agg cs)) w) : wpList P ops Q (o :: rest) a w :=
  wpList_step fun K hK => by
    rw [if_pos hw]
    exact wp_load_row ty x ho g hx t cs fr d hg hu hd hi (hK _ _ h)
end Go.Proofs.YtonmccmeljeopaaDoor

namespace Go.Proofs.YtonmccmeljeopaaDoor
open Go Go.RowKit
set_option linter.unusedSimpArgs false
set_option linter.unusedVariables false

theorem pVer_true {root e : List UInt8} {x : Int} {n1 n2 n3 : Nat} {P O Q : List UInt8} (h : pVer root e x n1 n2 n3 P O Q = true) : ∃ k : Nat, x = (k : Int) ∧ k < 16 ∧ n1 = 32 ∧ n2 = 32 ∧ n3 = 4 ∧ kClimb (pWordOf (pOpen e P O 32)) k (chunks4 Q) 4 = root := by
  unfold pVer at h
  split at h
  · rename_i h1
    split at h
    · rename_i h2
      exact ⟨x.toNat, by omega, by omega, h2.1, h2.2, h1.2, of_decide_eq_true h⟩
    · cases h
  · cases h
theorem chunks4_at (Q : List UInt8) (hQ : Q.length = 128) (k : Nat) (hk : k < 4) : ((chunks4 Q).getD k []).length = 32 := by
  have e : (chunks4 Q).getD k [] = chunk Q k := by simp [chunks4, hk]
  rw [e]
  exact chunk_length Q k (by omega)
/-- Whether a signature is a key's own: the lists' chunks. -/
def ownIs (s d : List UInt8) (k : Nat) (P O Q : List UInt8) : Bool := allEq 32 (chunk (pParts s k d 32)) (chunk P) && (allEq 32 (chunk (pOthers s k d 32)) (chunk O) && allEq 4 (fun i => (kPath (pLeaves s) k).getD i []) (fun i => (chunks4 Q).getD i []))
theorem own_or (s d : List UInt8) (hs : s.length = 32) (k : Nat) (hk : k < 16) (P O Q : List UInt8) (hP : P.length = 1024) (hO : O.length = 1024) (hQ : Q.length = 128) (hcl : kClimb (pWordOf (pOpen d P O 32)) k (chunks4 Q) 4 = kRoot (pLeaves s)) (J : List (List UInt8)) (hw : WAll s 16 J) (hv : VNot d P O k (chunks4 Q) J) (hn : KNoted (pLeaves s) 4 0 J) : ownIs s d k P O Q = true ∨ cnt J < J.length := by
  by_cases hap : cnt J < J.length
  · exact .inr hap
  · obtain ⟨h1, h2, h3⟩ := own_pure s hs k hk d P O hP hO (chunks4 Q) (chunks4_at Q hQ) J hap hw hv hn hcl
    refine .inl ?_
    unfold ownIs allEq
    rw [decide_eq_true h1, decide_eq_true h2, decide_eq_true h3]; rfl
theorem own_sig {W : World} {B : Nat} {s d : List UInt8} {k : Nat} {cs : Array Value} (hk : k < 16) (h : SigAt W B s d (pLeaves s) k cs) : ∃ g gp : Nat, cs = #[.int .i64 (k : Int), .slice (some ⟨g, 0, none⟩) 32 32, .slice (some ⟨g + 1, 0, none⟩) 32 32, .slice (some ⟨gp, 0, none⟩) 4 4] ∧ Chunks W (some ⟨g, 0, none⟩) 32 (chunk (pParts s k d 32)) ∧ Chunks W (some ⟨g + 1, 0, none⟩) 32 (chunk (pOthers s k d 32)) ∧ Chunks W (some ⟨gp, 0, none⟩) 4 (fun i => (kPath (pLeaves s) k).getD i []) := by
  obtain ⟨g, gp, _, _, h1, h2, h3, h4⟩ := h.ex
  refine ⟨g, gp, h1, flat_chunks (by rw [pParts_length]) h2, flat_chunks (by rw [pOthers_length]) h3, ?_⟩
  have hd := path_dl (pLeaves_len s) (pLeaves_32 s) k hk gp _ h4
  have hne : kPath (pLeaves s) k ≠ [] := by intro h0; have := kPath_length (pLeaves s) k; rw [h0] at this; simp at this
  have := hd.chunks hne
  rwa [kPath_length] at this
theorem same_own (s d : List UInt8) (k : Nat) (hk : k < 16) (p1 p2 p3 : Option Addr) (c1 c2 c3 : Nat) (P O Q : List UInt8) (cs : Array Value) (B : Nat) (W : World) (h : SigAt W B s d (pLeaves s) k cs) (D1 : Digs W (.slice p1 32 c1) P) (D2 : Digs W (.slice p2 32 c2) O) (D3 : Digs W (.slice p3 4 c3) Q) :
    Calls Tryd.prog 12 #[.agg cs, .agg #[.int .i64 (k : Int), .slice p1 32 c1, .slice p2 32 c2, .slice p3 4 c3]] W fun e w' => e = .returned (.bool (ownIs s d k P O Q)) ∧ Below W.heap.size W w' := by
  obtain ⟨g, gp, rfl, k1, k2, k3⟩ := own_sig hk h
  have l1 := (digs_32 D1).1
  have l2 := (digs_32 D2).1
  have l3 : Q.length = 128 := by
    obtain ⟨p', n', cap, e, hl, hp⟩ := D3
    simp only [Value.slice.injEq] at e
    omega
  have d3 := (DL_of_digs D3).chunks (by intro h0; have := chunks4_length Q; rw [h0] at this; simp at this)
  rw [chunks4_length] at d3
  exact sameSX_calls (k : Int) _ _ _ p1 p2 p3 32 32 4 32 32 4 c1 c2 c3 (by decide) (by decide) (by decide) _ _ _ _ _ _
    (fun i hi => chunk_length _ i (by rw [pParts_length]; omega)) (fun i hi => chunk_length _ i (by rw [pOthers_length]; omega)) (fun i hi => by rw [kPath_at _ _ _ hi]; exact pathAt_length _ (pLeaves_len s) (pLeaves_32 s) k hk i hi)
    (fun i hi => chunk_length _ i (by omega)) (fun i hi => chunk_length _ i (by omega)) (chunks4_at Q l3) W k1 k2 k3 (D1.chunks (by decide)) (D2.chunks (by decide)) d3

set_option maxHeartbeats 16000000 in
set_option maxRecDepth 100000 in
theorem keysBinds_big (s : List UInt8) (d : List UInt8) (x : Int) (p1 p2 p3 : Option Addr) (n1 n2 n3 c1 c2 c3 : Nat) (w : World) (tabs : Tabs w) (hbig : 100 < n1 ∨ 100 < n2 ∨ 100 < n3) :
    Calls Tryd.prog 3 #[.agg (bc s), .agg (bc d), .agg #[.int .i64 x, .slice p1 n1 c1, .slice p2 n2 c2, .slice p3 n3 c3]] w fun e w' => e = .returned (.bool true) ∧ Below w.heap.size w w' := by
  obtain ⟨q0, q1, q2⟩ := al3 w (.cells (bc s) 23) (.cells (bc d) 23) (.cells #[.int .i64 x, .slice p1 n1 c1, .slice p2 n2 c2, .slice p3 n3 c3] 26)
  have b03 := bel3 w (.cells (bc s) 23) (.cells (bc d) 23) (.cells #[.int .i64 x, .slice p1 n1 c1, .slice p2 n2 c2, .slice p3 n3 c3] 26)
  obtain ⟨X, hX⟩ : ∃ X, (((w.alloc (.cells (bc s) 23)).alloc (.cells (bc d) 23)).alloc (.cells #[.int .i64 x, .slice p1 n1 c1, .slice p2 n2 c2, .slice p3 n3 c3] 26)) = X := ⟨_, rfl⟩
  rw [hX] at q2 b03
  have HX := hide hX
  have B0 := hide b03
  have TX := hide (tabs.below b03 (Nat.le_refl _))
  have CA := hide fun W t => kawake_calls W t
  clear hX q0 q1 b03 tabs
  go_enter Tryd.func3, Tryd.ntmps3
  go_upto_region 1 with fail
  change Code.wp _ _ _ _ (((w.alloc (.cells (bc s) 23)).alloc (.cells (bc d) 23)).alloc (.cells #[.int .i64 x, .slice p1 n1 c1, .slice p2 n2 c2, .slice p3 n3 c3] 26))
  rw [unhide HX]
  go_wp2_with fail
  refine (unhide CA _ (unhide TX)).mono ?_
  rintro e1 w1 ⟨rfl, b1⟩
  have p2' := Below.at b1 (Array.getElem?_eq_some_iff.1 q2).1 q2
  have B1 := hide ((unhide B0).trans (b1.mono (unhide B0).size))
  have T1 := hide ((unhide TX).below b1 (Nat.le_refl _))
  have k1 : w1.cell? ⟨w.heap.size + 1 + 1, 1, none⟩ = some (.slice p1 n1 c1) := cell_of_row _ _ _ _ _ _ p2'
  have k2 : w1.cell? ⟨w.heap.size + 1 + 1, 2, none⟩ = some (.slice p2 n2 c2) := cell_of_row _ _ _ _ _ _ p2'
  have k3 : w1.cell? ⟨w.heap.size + 1 + 1, 3, none⟩ = some (.slice p3 n3 c3) := cell_of_row _ _ _ _ _ _ p2'
  clear p2' q2 b1
  by_cases h1 : 100 < n1
  · have e1 : decide ((100 : Int) < (n1 : Int)) = true := by simp; omega
    clear hbig h1
    go_wp2_with fail
    refine (unhide CA _ (unhide T1)).mono ?_
    rintro e1 w2 ⟨rfl, b2⟩
    go_wp2_with fail
    go_ret
    exact ⟨rfl, (unhide B1).trans (b2.mono (unhide B1).size)⟩
  · have e1 : decide ((100 : Int) < (n1 : Int)) = false := by simp; omega
    by_cases h2 : 100 < n2
    · have e2 : decide ((100 : Int) < (n2 : Int)) = true := by simp; omega
      clear hbig h1 h2
      go_wp2_with fail
      refine (unhide CA _ (unhide T1)).mono ?_
      rintro e1 w2 ⟨rfl, b2⟩
      go_wp2_with fail
      go_ret
      exact ⟨rfl, (unhide B1).trans (b2.mono (unhide B1).size)⟩
    · have e2 : decide ((100 : Int) < (n2 : Int)) = false := by simp; omega
      have e3 : decide ((100 : Int) < (n3 : Int)) = true := by simp; omega
      clear hbig h1 h2
      go_wp2_with fail
      refine (unhide CA _ (unhide T1)).mono ?_
      rintro e1 w2 ⟨rfl, b2⟩
      go_wp2_with fail
      go_ret
      exact ⟨rfl, (unhide B1).trans (b2.mono (unhide B1).size)⟩

set_option maxHeartbeats 16000000 in
set_option maxRecDepth 100000 in
theorem keysBinds_small (s : List UInt8) (hs : s.length = 32) (d : List UInt8) (hd : d.length = 32) (x : Int) (p1 p2 p3 : Option Addr) (n1 n2 n3 c1 c2 c3 : Nat) (P O Q : List UInt8) (w : World) (tabs : Tabs w) (D1 : Digs w (.slice p1 n1 c1) P) (D2 : Digs w (.slice p2 n2 c2) O) (D3 : Digs w (.slice p3 n3 c3) Q) (h1 : ¬ 100 < n1) (h2 : ¬ 100 < n2) (h3 : ¬ 100 < n3) :
    Calls Tryd.prog 3 #[.agg (bc s), .agg (bc d), .agg #[.int .i64 x, .slice p1 n1 c1, .slice p2 n2 c2, .slice p3 n3 c3]] w fun e w' => e = .returned (.bool true) ∧ Below w.heap.size w w' := by
  have hi0 := digInfo s hs
  have hi1 := digInfo d hd
  have hRl := kRoot_length (pLeaves s) (pLeaves_len s)
  have hiR := digInfo _ hRl
  have hzR := zeroSize _ hRl
  have CA := hide fun W t => kawake_calls W t
  have CN := hide fun W t => new_calls s hs W t
  have CM := hide fun L S I hI W hL => rnew6Q_calls s hs L S I hI W hL
  have CR := hide fun p c L S I hI W hL ol hD => rroot6Q_calls s hs 0 (pLeaves s) (pLeaves_len s) (pLeaves_32 s) p c L S I hI W hL ol hD
  have CV := hide fun W a b c t => verifyX_calls (kRoot (pLeaves s)) d hRl hd x p1 p2 p3 n1 n2 n3 c1 c2 c3 P O Q W a b c t
  have CG := hide fun p c k hk W hD t => again_calls s hs 0 (pLeaves s) (pLeaves_len s) p c k hk d hd W hD t
  have CX := hide fun k hk cs B W h a b c => same_own s d k hk p1 p2 p3 c1 c2 c3 P O Q cs B W h a b c
  have CQ := hide fun k hk hP hO g1 o1 g2 o2 L S I hI W hL hg1 hg2 hn1 hn2 hOut bP bO hD => rverifyQ_calls (kRoot (pLeaves s)) d hRl hd k hk P O hP hO (chunks4 Q) (chunks4_length Q) g1 o1 c1 g2 o2 c2 p3 c3 L S I hI W hL hg1 hg2 hn1 hn2 hOut bP bO hD
  have CO := hide fun k hk hP hO hQ hcl J hw hv hn => own_or s d hs k hk P O Q hP hO hQ hcl J hw hv hn
  have PV := hide fun h => pVer_true (root := kRoot (pLeaves s)) (e := d) (x := x) (n1 := n1) (n2 := n2) (n3 := n3) (P := P) (O := O) (Q := Q) h
  have hmono : Hid (∀ J J' : List (List UInt8), (∀ s ∈ J, s ∈ J') → (WAll s 16 J → WAll s 16 J') ∧ (KNoted (pLeaves s) 4 0 J → KNoted (pLeaves s) 4 0 J')) := hide fun J J' h => ⟨fun g j hj => ⟨(g j hj).1.mono h, h _ (g j hj).2⟩, fun g => g.mono h⟩
  have hdn : Hid (pLeaves s ≠ []) := hide (by intro h; have := pLeaves_len s; rw [h] at this; simp at this)
  have hsi := hide fun n v => sgc_info s hs n v
  have hri := hide fun n v => rsgc_info s hs n v
  have hso := hide fun n p l c => sgc_one s n p l c
  have hsz := hide fun n v => sg0_size s hs n v
  have e1 : decide ((100 : Int) < (n1 : Int)) = false := by simp; omega
  have e2 : decide ((100 : Int) < (n2 : Int)) = false := by simp; omega
  have e3 : decide ((100 : Int) < (n3 : Int)) = false := by simp; omega
  obtain ⟨q0, q1, q2⟩ := al3 w (.cells (bc s) 23) (.cells (bc d) 23) (.cells #[.int .i64 x, .slice p1 n1 c1, .slice p2 n2 c2, .slice p3 n3 c3] 26)
  have b03 := bel3 w (.cells (bc s) 23) (.cells (bc d) 23) (.cells #[.int .i64 x, .slice p1 n1 c1, .slice p2 n2 c2, .slice p3 n3 c3] 26)
  obtain ⟨X, hX⟩ : ∃ X, (((w.alloc (.cells (bc s) 23)).alloc (.cells (bc d) 23)).alloc (.cells #[.int .i64 x, .slice p1 n1 c1, .slice p2 n2 c2, .slice p3 n3 c3] 26)) = X := ⟨_, rfl⟩
  rw [hX] at q0 q1 q2 b03
  have HX := hide hX
  have B0 := hide b03
  have TX := hide (tabs.below b03 (Nat.le_refl _))
  have E1 := hide (D1.below b03)
  have E2 := hide (D2.below b03)
  have E3 := hide (D3.below b03)
  have HH := hide h1
  have hig : (Tryd.prog.info? 26).map (·.size) = some (#[Value.int .i64 x, .slice p1 n1 c1, .slice p2 n2 c2, .slice p3 n3 c3] : Array Value).size := sig_info _ rfl
  clear hX b03 tabs D1 D2 D3 h1 h2 h3 hRl
  go_enter Tryd.func3, Tryd.ntmps3
  go_upto_region 1 with fail
  change Code.wp _ _ _ _ (((w.alloc (.cells (bc s) 23)).alloc (.cells (bc d) 23)).alloc (.cells #[.int .i64 x, .slice p1 n1 c1, .slice p2 n2 c2, .slice p3 n3 c3] 26))
  rw [unhide HX]
  go_wp2_with fail
  refine (unhide CA _ (unhide TX)).mono ?_
  rintro e1' w1 ⟨rfl, b1⟩
  have p0 := hide (Below.at b1 (Array.getElem?_eq_some_iff.1 q0).1 q0)
  have p1' := hide (Below.at b1 (Array.getElem?_eq_some_iff.1 q1).1 q1)
  have p2' := Below.at b1 (Array.getElem?_eq_some_iff.1 q2).1 q2
  have P2 := hide p2'
  have B1 := hide ((unhide B0).trans (b1.mono (unhide B0).size))
  have T1 := hide ((unhide TX).below b1 (Nat.le_refl _))
  have F1 := hide ((unhide E1).below b1)
  have F2 := hide ((unhide E2).below b1)
  have F3 := hide ((unhide E3).below b1)
  have k1 : w1.cell? ⟨w.heap.size + 1 + 1, 1, none⟩ = some (.slice p1 n1 c1) := cell_of_row _ _ _ _ _ _ p2'
  have k2 : w1.cell? ⟨w.heap.size + 1 + 1, 2, none⟩ = some (.slice p2 n2 c2) := cell_of_row _ _ _ _ _ _ p2'
  have k3 : w1.cell? ⟨w.heap.size + 1 + 1, 3, none⟩ = some (.slice p3 n3 c3) := cell_of_row _ _ _ _ _ _ p2'
  clear p2' q0 q1 q2 b1 HX TX E1 E2 E3 B0
  go_wp2_with fail
  clear k1 k2 k3 e1 e2 e3
  refine (rnewLog_calls _).mono ?_
  rintro e1' w4 ⟨rfl, hL4, b4, z4⟩
  obtain ⟨L, hLL⟩ : ∃ B, w1.heap.size + 1 = B := ⟨_, rfl⟩
  obtain ⟨S4, hS4⟩ : ∃ S : Nat → Prop, (fun k => w1.heap.size ≤ k ∧ k < w1.heap.size + 2) = S := ⟨_, rfl⟩
  have HS4 : ∀ k, S4 k → w1.heap.size ≤ k := fun k h => by rw [← hS4] at h; exact h.1
  rw [hLL, hS4] at hL4
  rw [hLL]
  have st4 : Hid (WSt w1 L w4 S4 [] 0) := hide ⟨b4, hL4, HS4, by simp⟩
  have r04 : Hid (Kept w4 S4 (w.heap.size) (.cells (bc s) 23 (0, 0))) := hide ⟨Below.at b4 (Array.getElem?_eq_some_iff.1 (unhide p0)).1 (unhide p0), fun h => by have := HS4 _ h; have := (Array.getElem?_eq_some_iff.1 (unhide p0)).1; omega⟩
  have r14 : Hid (Kept w4 S4 (w.heap.size + 1) (.cells (bc d) 23 (0, 0))) := hide ⟨Below.at b4 (Array.getElem?_eq_some_iff.1 (unhide p1')).1 (unhide p1'), fun h => by have := HS4 _ h; have := (Array.getElem?_eq_some_iff.1 (unhide p1')).1; omega⟩
  have r24 : Hid (Kept w4 S4 (w.heap.size + 1 + 1) (.cells #[.int .i64 x, .slice p1 n1 c1, .slice p2 n2 c2, .slice p3 n3 c3] 26 (0, 0))) := hide ⟨Below.at b4 (Array.getElem?_eq_some_iff.1 (unhide P2)).1 (unhide P2), fun h => by have := HS4 _ h; have := (Array.getElem?_eq_some_iff.1 (unhide P2)).1; omega⟩
  clear hL4 b4 z4 hLL hS4 HS4 p0 p1' P2
  go_wp2_with (refine wpList_load_row rfl 23 (.tmp 3) rfl (w.heap.size) rfl 23 _ (0, 0) _ (unhide r04).1 Tryd.underlying23 rfl hi0 ?_)
  refine (unhide CN _ ((unhide T1).below (unhide st4).bw (Nat.le_refl _))).mono ?_
  rintro e1' w5 ⟨rfl, hD5, b5⟩
  have st5 := hide ((unhide st4).below b5)
  have r05 := hide ((unhide r04).below b5)
  have r15 := hide ((unhide r14).below b5)
  have r25 := hide ((unhide r24).below b5)
  obtain ⟨G0, hG0⟩ : ∃ G, w4.heap.size + 1 + 1 = G := ⟨_, rfl⟩
  have HO5 : Hid (Out (some ⟨G0, 0, none⟩) S4) := hide fun a' e hS => by cases e; have := (unhide st4).log.old _ hS; rw [← hG0] at this; simp at this; omega
  rw [hG0] at hD5
  rw [hG0]
  have HD5 := hide hD5
  have i1 := unhide hsi 0 (.slice (some ⟨G0, 0, none⟩) 16 16)
  have o1 := unhide hso 0 (some ⟨G0, 0, none⟩) 16 16
  have z1 := unhide hsz 0 (.slice (some ⟨G0, 0, none⟩) 16 16)
  have cg1 := unhide CG (some ⟨G0, 0, none⟩) 16
  obtain ⟨C1, hC1⟩ : ∃ C, sgc s 0 (.slice (some ⟨G0, 0, none⟩) 16 16) = C := ⟨_, rfl⟩
  rw [hC1] at i1 o1 z1 cg1
  rw [hC1]
  have CG1 := hide cg1
  clear hG0 hC1 cg1 hD5 b5 CG r04 r14 r24
  go_upto_region 7 with (refine wpList_store_newV rfl 31 (.tmp 8) (.tmp 34) rfl w5 sg0 _ C1 rfl rfl i1 z1 o1 ?_; intro w6 q6 b6 zz6)
  have st6 := hide ((unhide st5).below b6)
  have k86 : Hid (Kept w6 S4 w5.heap.size (.cells C1 31 (0, 0))) := hide (Kept.new (unhide st5).log (Nat.le_refl _) q6)
  have HD6 := hide ((unhide HD5).below b6 (Nat.le_refl _))
  have r06 := hide ((unhide r05).below b6)
  have r16 := hide ((unhide r15).below b6)
  have r26 := hide ((unhide r25).below b6)
  obtain ⟨G8, hG8⟩ : ∃ G, w5.heap.size = G := ⟨_, rfl⟩
  rw [hG8] at k86
  simp only [hG8]
  clear q6 b6 zz6 hG8 HD5 r05 r15 r25 st4 st5
  go_wp2_with (refine wpList_load_row rfl 23 (.tmp 3) rfl (w.heap.size) rfl 23 _ (0, 0) _ (unhide r06).1 Tryd.underlying23 rfl hi0 ?_)
  refine (unhide CM L S4 [] (by simp) _ (unhide st6).log).mono ?_
  rintro e1' w7 ⟨p7, c7, S7, I7, rfl, hD7, hL7, hB7, hM7, hO7, mo7, wa7, le7⟩
  have st7 := hide ((unhide st6).step hL7 hB7 hM7 le7)
  have HDL7 := hide ((unhide HD6).rbut hB7 (fun _ => unhide HO5))
  have HO7 := hide (Out.step (unhide HO5) (unhide HD6) hM7 (unhide hdn))
  have WA7 := hide wa7
  have HD7 := hide hD7
  have HP7 := hide hO7
  have r07 := hide ((unhide r06).step hB7 hM7)
  have r17 := hide ((unhide r16).step hB7 hM7)
  have r27 := hide ((unhide r26).step hB7 hM7)
  have k87 := hide ((unhide k86).step hB7 hM7)
  clear hD7 hL7 hB7 hM7 hO7 mo7 wa7 le7 r06 r16 r26 k86 HD6 HO5 st6 CM
  have i2 := unhide hri 0 (.slice p7 16 c7)
  have o2 := unhide hso 0 p7 16 c7
  have z2 := unhide hsz 0 (.slice p7 16 c7)
  have cr7 := unhide CR p7 c7 L S7 I7 (by have := (unhide st7).len; omega)
  obtain ⟨C2, hC2⟩ : ∃ C, sgc s 0 (.slice p7 16 c7) = C := ⟨_, rfl⟩
  rw [hC2] at i2 o2 z2 cr7
  rw [hC2]
  have CR7 := hide cr7
  clear hC2 cr7 CR
  go_upto_region 8 with (refine wpList_store_newV rfl 33 (.tmp 9) (.tmp 37) rfl w7 sg0 _ C2 rfl rfl i2 z2 o2 ?_; intro wa qa ba zza)
  have sta := hide ((unhide st7).below ba)
  have k9a : Hid (Kept wa S7 w7.heap.size (.cells C2 33 (0, 0))) := hide (Kept.new (unhide st7).log (Nat.le_refl _) qa)
  have HDLa := hide ((unhide HDL7).below ba (Nat.le_refl _))
  have HDa := hide ((unhide HD7).below ba (Nat.le_refl _))
  have r0a := hide ((unhide r07).below ba)
  have r1a := hide ((unhide r17).below ba)
  have r2a := hide ((unhide r27).below ba)
  have k8a := hide ((unhide k87).below ba)
  obtain ⟨G9, hG9⟩ : ∃ G, w7.heap.size = G := ⟨_, rfl⟩
  rw [hG9] at k9a
  simp only [hG9]
  clear qa ba zza hG9 HD7 HDL7 r07 r17 r27 k87 st7
  go_wp2_with (refine wpList_load_row rfl 33 (.tmp 9) rfl G9 rfl 33 C2 (0, 0) _ (unhide k9a).1 Tryd.underlying33 rfl i2 ?_)
  refine (unhide CR7 _ (unhide sta).log (unhide HP7) (unhide HDa)).mono ?_
  rintro e1' w8 ⟨rfl, S8, I8, hL8, hB8, hM8, mo8, kn8, le8⟩
  have st8 := hide ((unhide sta).step hL8 hB8 hM8 le8)
  have HDL8 := hide ((unhide HDLa).rbut hB8 (fun _ => unhide HO7))
  have HO8 := hide (Out.step (unhide HO7) (unhide HDLa) hM8 (unhide hdn))
  have MO8 := hide mo8
  have KN8 := hide kn8
  have r08 := hide ((unhide r0a).step hB8 hM8)
  have r18 := hide ((unhide r1a).step hB8 hM8)
  have r28 := hide ((unhide r2a).step hB8 hM8)
  have k88 := hide ((unhide k8a).step hB8 hM8)
  clear hL8 hB8 hM8 mo8 kn8 le8 r0a r1a r2a k8a k9a HDLa HDa HO7 HP7 sta CR7
  generalize kRoot (pLeaves s) = RT at *
  go_upto_region 9 with (refine wpList_store_new rfl 23 (.tmp 10) (.tmp 40) rfl w8 _ _ RT rfl rfl hiR hzR ?_; intro w9 q9 b9 y9)
  have st9 := hide ((unhide st8).below b9)
  have kA9 : Hid (Kept w9 S8 w8.heap.size (.cells (bc RT) 23 (0, 0))) := hide (Kept.new (unhide st8).log (Nat.le_refl _) q9)
  have HDL9 := hide ((unhide HDL8).below b9 (Nat.le_refl _))
  have r19 := hide ((unhide r18).below b9)
  have r29 := hide ((unhide r28).below b9)
  have k89 := hide ((unhide k88).below b9)
  obtain ⟨GA, hGA⟩ : ∃ G, w8.heap.size = G := ⟨_, rfl⟩
  rw [hGA] at kA9
  simp only [hGA]
  clear q9 b9 y9 hGA r08 r18 r28 k88 HDL8 st8
  go_wp2_with (first
    | (refine wpList_load_row rfl 23 (.tmp 10) rfl GA rfl 23 _ (0, 0) _ (unhide kA9).1 Tryd.underlying23 rfl hiR ?_)
    | (refine wpList_load_row rfl 23 (.tmp 4) rfl (w.heap.size + 1) rfl 23 _ (0, 0) _ (unhide r19).1 Tryd.underlying23 rfl hi1 ?_)
    | (refine wpList_load_row rfl 26 (.tmp 5) rfl (w.heap.size + 1 + 1) rfl 26 _ (0, 0) _ (unhide r29).1 Tryd.underlying26 rfl hig ?_))
  refine (unhide CV _ ((unhide F1).below (unhide st9).bw) ((unhide F2).below (unhide st9).bw) ((unhide F3).below (unhide st9).bw) ((unhide T1).below (unhide st9).bw (Nat.le_refl _))).mono ?_
  rintro e1' wA ⟨rfl, bA⟩
  have stA := hide ((unhide st9).below bA)
  have HDLA := hide ((unhide HDL9).below bA (Nat.le_refl _))
  have r1A := hide ((unhide r19).below bA)
  have r2A := hide ((unhide r29).below bA)
  have k8A := hide ((unhide k89).below bA)
  have kAA := hide ((unhide kA9).below bA)
  obtain ⟨pv, hpv⟩ : ∃ b, pVer RT d x n1 n2 n3 P O Q = b := ⟨_, rfl⟩
  rw [hpv]
  rw [hpv] at PV
  clear bA hpv st9 HDL9 r19 r29 k89 kA9 CV CN
  cases pv with
  | false =>
    go_wp2_with fail
    refine (unhide CA _ ((unhide T1).below (unhide stA).bw (Nat.le_refl _))).mono ?_
    rintro e1' wf ⟨rfl, bf⟩
    go_wp2_with fail
    go_ret
    exact ⟨rfl, (unhide B1).trans (((unhide stA).below bf).bw.mono (unhide B1).size)⟩
  | true =>
    obtain ⟨k, rfl, hk, rfl, rfl, rfl, hcl⟩ := unhide PV rfl
    have t0 : wA.cell? ⟨w.heap.size + 1 + 1, 0, none⟩ = some (.int .i64 (k : Int)) := cell_of_row _ _ _ _ _ _ (unhide r2A).1
    have d1 : decide ((k : Int) < 0) = false := by simp
    have d2 : decide ((16 : Int) ≤ (k : Int)) = false := by simp; omega
    have HK := hide hk
    have HCL := hide hcl
    clear PV hk hcl
    go_wp2_with (first
      | (refine wpList_load_row rfl 23 (.tmp 10) rfl GA rfl 23 _ (0, 0) _ (unhide kAA).1 Tryd.underlying23 rfl hiR ?_)
      | (refine wpList_load_row rfl 23 (.tmp 4) rfl (w.heap.size + 1) rfl 23 _ (0, 0) _ (unhide r1A).1 Tryd.underlying23 rfl hi1 ?_)
      | (refine wpList_load_row rfl 26 (.tmp 5) rfl (w.heap.size + 1 + 1) rfl 26 _ (0, 0) _ (unhide r2A).1 Tryd.underlying26 rfl hig ?_))
    clear t0 d1 d2
    obtain ⟨lP, g1, o1', rfl, hz1, hb1⟩ := digs_32 ((unhide F1).below (unhide stA).bw)
    obtain ⟨lO, g2, o2', rfl, hz2, hb2⟩ := digs_32 ((unhide F2).below (unhide stA).bw)
    have lo1 : g1 < w1.heap.size := by
      obtain ⟨_, g, o, e, h, _⟩ := digs_32 (unhide F1)
      cases e; exact h
    have lo2 : g2 < w1.heap.size := by
      obtain ⟨_, g, o, e, h, _⟩ := digs_32 (unhide F2)
      cases e; exact h
    have n1' : ¬ S8 g1 := fun h => by have := (unhide stA).lo _ h; omega
    have n2' : ¬ S8 g2 := fun h => by have := (unhide stA).lo _ h; omega
    have ho3 : Out p3 S8 := fun a e hS => by
      have hne : chunks4 Q ≠ [] := by intro h0; have := chunks4_length Q; rw [h0] at this; simp at this
      obtain ⟨b, off, e2, hlt, _⟩ := (DL_of_digs (unhide F3)).2 hne
      rw [e2] at e; cases e
      have h5 : w1.heap.size ≤ b := (unhide stA).lo _ hS
      omega
    have lQ : Q.length = 128 := by
      obtain ⟨p', n', cap, e, hl, hp⟩ := unhide F3
      simp only [Value.slice.injEq] at e
      omega
    refine (unhide CQ k (unhide HK) lP lO g1 o1' g2 o2' L S8 I8 (by have := (unhide stA).len; omega) _ (unhide stA).log hz1 hz2 n1' n2' ho3 hb1 hb2 (DL_of_digs ((unhide F3).below (unhide stA).bw))).mono ?_
    rintro e1' wB ⟨rfl, SB, IB, hLB, hBB, hMB, moB, vnB, leB⟩
    have stB := hide ((unhide stA).step hLB hBB hMB leB)
    have HDLB := hide ((unhide HDLA).rbut hBB (fun _ => unhide HO8))
    have r1B := hide ((unhide r1A).step hBB hMB)
    have r2B := hide ((unhide r2A).step hBB hMB)
    have k8B := hide ((unhide k8A).step hBB hMB)
    have FIN := hide (unhide CO k (unhide HK) lP lO lQ (unhide HCL) IB ((unhide hmono I7 IB (fun s h => moB s (unhide MO8 s h))).1 (unhide WA7)) vnB ((unhide hmono I8 IB moB).2 (unhide KN8)))
    have CX2 := hide fun cs B W h a b c => unhide CX k (unhide HK) cs B W h a b c
    generalize ownIs s d k P O Q = own at *
    have t0 : wB.cell? ⟨w.heap.size + 1 + 1, 0, none⟩ = some (.int .i64 (k : Int)) := cell_of_row _ _ _ _ _ _ (unhide r2B).1
    clear hLB hBB hMB moB vnB leB hz1 hz2 hb1 hb2 lo1 lo2 n1' n2' ho3 lQ lP lO stA HDLA r1A r2A k8A kAA CX CO CQ HCL hmono WA7 KN8 MO8 HO8
    go_wp2_with (first
      | (refine wpList_load_row rfl 31 (.tmp 8) rfl G8 rfl 31 C1 (0, 0) _ (unhide k8B).1 Tryd.underlying31 rfl i1 ?_)
      | (refine wpList_load_row rfl 23 (.tmp 4) rfl (w.heap.size + 1) rfl 23 _ (0, 0) _ (unhide r1B).1 Tryd.underlying23 rfl hi1 ?_))
    refine (unhide CG1 k (unhide HK) _ (unhide HDLB) ((unhide T1).below (unhide stB).bw (Nat.le_refl _))).mono ?_
    rintro e1' wC ⟨⟨cs, rfl, hSc⟩, bC⟩
    have stC := hide ((unhide stB).below bC)
    have r2C := hide ((unhide r2B).below bC)
    have hcz := hSc.size
    have hui := sig_info cs hcz.1
    have huq : sigZ.size = cs.size := by rw [hcz.1]; rfl
    have huo := hcz.2
    have HSC := hide hSc
    clear hcz t0 hSc bC stB r1B r2B k8B HDLB CG1
    go_upto_region 13 with (refine wpList_store_newV rfl 26 (.tmp 11) (.tmp 68) rfl wC sigZ _ cs rfl rfl hui huq huo ?_; intro wD qD bD zzD)
    have stD := hide ((unhide stC).below bD)
    have sgD := hide ((unhide HSC).below bD)
    have kGD : Hid (Kept wD SB wC.heap.size (.cells cs 26 (0, 0))) := hide (Kept.new (unhide stC).log (Nat.le_refl _) qD)
    have r2D := hide ((unhide r2C).below bD)
    obtain ⟨GD, hGD⟩ : ∃ G, wC.heap.size = G := ⟨_, rfl⟩
    rw [hGD] at kGD
    simp only [hGD]
    clear qD bD zzD hGD r2C stC HSC
    go_wp2_with fail
    refine (unhide CA _ ((unhide T1).below (unhide stD).bw (Nat.le_refl _))).mono ?_
    rintro e1' wE ⟨rfl, bE⟩
    have stE := hide ((unhide stD).below bE)
    have sgE := hide ((unhide sgD).below bE)
    have kGE := hide ((unhide kGD).below bE)
    have r2E := hide ((unhide r2D).below bE)
    clear bE stD sgD kGD r2D
    go_wp2_with (first
      | (refine wpList_load_row_gd rfl 26 (.tmp 11) rfl GD rfl 26 _ (0, 0) _ (unhide kGE).1 Tryd.underlying26 rfl hui ?_)
      | (refine wpList_load_row_gd rfl 26 (.tmp 5) rfl (w.heap.size + 1 + 1) rfl 26 _ (0, 0) _ (unhide r2E).1 Tryd.underlying26 rfl hig ?_))
    refine (unhide CX2 cs _ _ (unhide sgE) ((unhide F1).below (unhide stE).bw) ((unhide F2).below (unhide stE).bw) ((unhide F3).below (unhide stE).bw)).mono ?_
    rintro e1' wF ⟨rfl, bF⟩
    have stF := hide ((unhide stE).below bF)
    clear bF stE sgE kGE r2E
    cases own with
    | true =>
      go_wp2_with fail
      go_ret
      exact ⟨rfl, (unhide B1).trans ((unhide stF).bw.mono (unhide B1).size)⟩
    | false =>
      have cl := rclash_calls L SB IB wF (unhide stF).log
      have hcc : cnt IB < IB.length := (unhide FIN).elim (fun h => by cases h) id
      rw [decide_eq_true hcc] at cl
      clear hcc
      go_wp2_with fail
      refine cl.mono ?_
      rintro e1' wG ⟨rfl, bG⟩
      clear cl
      go_wp2_with fail
      go_ret
      exact ⟨rfl, (unhide B1).trans (((unhide stF).below bG).bw.mono (unhide B1).size)⟩
theorem keysBinds_walk (s : List UInt8) (d : List UInt8) (hs : s.length = 32) (hd : d.length = 32) (x : Int) (p1 p2 p3 : Option Addr) (n1 n2 n3 c1 c2 c3 : Nat) (P O Q : List UInt8) (w : World) (tabs : Tabs w) (D1 : Digs w (.slice p1 n1 c1) P) (D2 : Digs w (.slice p2 n2 c2) O) (D3 : Digs w (.slice p3 n3 c3) Q) :
    Calls Tryd.prog 3 #[.agg (bc s), .agg (bc d), .agg #[.int .i64 x, .slice p1 n1 c1, .slice p2 n2 c2, .slice p3 n3 c3]] w fun e w' => e = .returned (.bool true) ∧ Below w.heap.size w w' := by
  by_cases hbig : 100 < n1 ∨ 100 < n2 ∨ 100 < n3
  · exact keysBinds_big s d x p1 p2 p3 n1 n2 n3 c1 c2 c3 w tabs hbig
  · exact keysBinds_small s hs d hd x p1 p2 p3 n1 n2 n3 c1 c2 c3 P O Q w tabs D1 D2 D3 (by omega) (by omega) (by omega)
end Go.Proofs.YtonmccmeljeopaaDoor
