/-
  AES over plain numbers: a block is a function of its 16 places, the words a function of their bytes; enciphering and deciphering undo one another.
-/
import Derived.Test.YtdodflnmhgnpeaaGreatDoorGfMath
namespace Go.Proofs.YtdodflnmhgnpeaaGreatDoor.Aes
open Gf

/-- alike at the 16 places -/
def Eq16 (f g : Nat → Nat) : Prop := ∀ i, i < 16 → f i = g i
/-- bytes at the 16 places -/
def By16 (f : Nat → Nat) : Prop := ∀ i, i < 16 → f i < 256
theorem Eq16.symm {f g : Nat → Nat} (h : Eq16 f g) : Eq16 g f := fun i hi => (h i hi).symm
theorem Eq16.trans {f g k : Nat → Nat} (h : Eq16 f g) (h' : Eq16 g k) : Eq16 f k := fun i hi => (h i hi).trans (h' i hi)
theorem Eq16.refl (f : Nat → Nat) : Eq16 f f := fun _ _ => rfl
theorem By16.of {f g : Nat → Nat} (h : By16 f) (e : Eq16 f g) : By16 g := fun i hi => by rw [← e i hi]; exact h i hi

def src (i : Nat) : Nat := (i + 4 * (i % 4)) % 16
def dst (i : Nat) : Nat := (i + 12 * (i % 4)) % 16
theorem src_lt (i : Nat) : src i < 16 := Nat.mod_lt _ (by omega)
theorem dst_lt (i : Nat) : dst i < 16 := Nat.mod_lt _ (by omega)
theorem src_dst : ∀ i < 16, src (dst i) = i := by decide
theorem dst_src : ∀ i < 16, dst (src i) = i := by decide
def each (g : Nat → Nat) (f : Nat → Nat) : Nat → Nat := fun i => g (f i)
def rows (f : Nat → Nat) : Nat → Nat := fun i => f (src i)
def rowsB (f : Nat → Nat) : Nat → Nat := fun i => f (dst i)
def rk (ws : Nat → Nat) (r : Nat) (f : Nat → Nat) : Nat → Nat := fun i => f i ^^^ ws (16 * r + i)
/-- the place of the column's byte that is k further, round -/
def nxt (i k : Nat) : Nat := i - i % 4 + (i + k) % 4
theorem nxt_lt (i k : Nat) (hi : i < 16) : nxt i k < 16 := by unfold nxt; omega
def mixTo (c f : Nat → Nat) (i : Nat) : Nat → Nat
  | 0 => 0
  | k + 1 => mixTo c f i k ^^^ mul (c k) (f (nxt i k))
def mix (c f : Nat → Nat) : Nat → Nat := fun i => mixTo c f i 4
/-- the factors that Encrypt and Decrypt take -/
def fE : Nat → Nat := fun k => if k = 0 then 2 else if k = 1 then 3 else 1
def fD : Nat → Nat := fun k => if k = 0 then 14 else if k = 1 then 11 else if k = 2 then 13 else 9
theorem fE_lt (k : Nat) : fE k < 256 := by unfold fE; split; omega; split <;> omega
theorem fD_lt (k : Nat) : fD k < 256 := by unfold fD; split; omega; split; omega; split <;> omega

theorem mixTo_lt (c f : Nat → Nat) (i k : Nat) (hc : ∀ k, c k < 256) : mixTo c f i k < 256 := by
  induction k with
  | zero => show 0 < 256; omega
  | succ k ih => exact xor_lt ih (mul_lt _ _ (hc k))
theorem mix_by (c f : Nat → Nat) (hc : ∀ k, c k < 256) : By16 (mix c f) := fun i _ => mixTo_lt c f i 4 hc
theorem mixTo_ext (c : Nat → Nat) {f g : Nat → Nat} (h : Eq16 f g) (i k : Nat) (hi : i < 16) : mixTo c f i k = mixTo c g i k := by
  induction k with
  | zero => rfl
  | succ k ih => show _ ^^^ _ = _ ^^^ _; rw [ih, h _ (nxt_lt i k hi)]
theorem mix_ext (c : Nat → Nat) {f g : Nat → Nat} (h : Eq16 f g) : Eq16 (mix c f) (mix c g) := fun i hi => mixTo_ext c h i 4 hi
theorem rows_ext {f g : Nat → Nat} (h : Eq16 f g) : Eq16 (rows f) (rows g) := fun i _ => h _ (src_lt i)
theorem rowsB_ext {f g : Nat → Nat} (h : Eq16 f g) : Eq16 (rowsB f) (rowsB g) := fun i _ => h _ (dst_lt i)
theorem each_ext (p : Nat → Nat) {f g : Nat → Nat} (h : Eq16 f g) : Eq16 (each p f) (each p g) := fun i hi => by unfold each; rw [h i hi]
theorem rk_ext (ws : Nat → Nat) (r : Nat) {f g : Nat → Nat} (h : Eq16 f g) : Eq16 (rk ws r f) (rk ws r g) := fun i hi => by unfold rk; rw [h i hi]
theorem rows_by {f : Nat → Nat} (h : By16 f) : By16 (rows f) := fun i _ => h _ (src_lt i)
theorem rowsB_by {f : Nat → Nat} (h : By16 f) : By16 (rowsB f) := fun i _ => h _ (dst_lt i)
theorem box_by {f : Nat → Nat} (h : By16 f) : By16 (each box f) := fun i hi => box_lt _ (h i hi)
theorem unbox_by {f : Nat → Nat} (h : By16 f) : By16 (each unbox f) := fun i hi => unbox_lt _ (h i hi)
theorem rk_by {ws f : Nat → Nat} {n r : Nat} (h : By16 f) (hw : ∀ i, i < n → ws i < 256) (hn : 16 * r + 16 ≤ n) : By16 (rk ws r f) := fun i hi => xor_lt (h i hi) (hw _ (by omega))
theorem rk_rk (ws : Nat → Nat) (r : Nat) (f : Nat → Nat) : rk ws r (rk ws r f) = f := by
  funext i; unfold rk; rw [Nat.xor_assoc, Nat.xor_self, Nat.xor_zero]
theorem rowsB_rows (f : Nat → Nat) : Eq16 (rowsB (rows f)) f := fun i hi => by unfold rowsB rows; rw [src_dst i hi]
theorem rows_rowsB (f : Nat → Nat) : Eq16 (rows (rowsB f)) f := fun i hi => by show f (dst (src i)) = f i; rw [dst_src i hi]
theorem unbox_each {f : Nat → Nat} (h : By16 f) : Eq16 (each unbox (each box f)) f := fun i hi => unbox_box _ (h i hi)
theorem box_each {f : Nat → Nat} (h : By16 f) : Eq16 (each box (each unbox f)) f := fun i hi => box_unbox _ (h i hi)

theorem d0 : ∀ x < 256, mul 14 (mul 2 x) ^^^ (mul 11 (mul 1 x) ^^^ (mul 13 (mul 1 x) ^^^ mul 9 (mul 3 x))) = x := by decide +kernel
theorem d1 : ∀ x < 256, mul 14 (mul 3 x) ^^^ (mul 11 (mul 2 x) ^^^ (mul 13 (mul 1 x) ^^^ mul 9 (mul 1 x))) = 0 := by decide +kernel
theorem d2 : ∀ x < 256, mul 14 (mul 1 x) ^^^ (mul 11 (mul 3 x) ^^^ (mul 13 (mul 2 x) ^^^ mul 9 (mul 1 x))) = 0 := by decide +kernel
theorem d3 : ∀ x < 256, mul 14 (mul 1 x) ^^^ (mul 11 (mul 1 x) ^^^ (mul 13 (mul 3 x) ^^^ mul 9 (mul 2 x))) = 0 := by decide +kernel
theorem e0 : ∀ x < 256, mul 2 (mul 14 x) ^^^ (mul 3 (mul 9 x) ^^^ (mul 1 (mul 13 x) ^^^ mul 1 (mul 11 x))) = x := by decide +kernel
theorem e1 : ∀ x < 256, mul 2 (mul 11 x) ^^^ (mul 3 (mul 14 x) ^^^ (mul 1 (mul 9 x) ^^^ mul 1 (mul 13 x))) = 0 := by decide +kernel
theorem e2 : ∀ x < 256, mul 2 (mul 13 x) ^^^ (mul 3 (mul 11 x) ^^^ (mul 1 (mul 14 x) ^^^ mul 1 (mul 9 x))) = 0 := by decide +kernel
theorem e3 : ∀ x < 256, mul 2 (mul 9 x) ^^^ (mul 3 (mul 13 x) ^^^ (mul 1 (mul 11 x) ^^^ mul 1 (mul 14 x))) = 0 := by decide +kernel
theorem ac16 (a0 a1 a2 a3 b0 b1 b2 b3 c0 c1 c2 c3 f0 f1 f2 f3 : Nat) :
    (((a0 ^^^ a1 ^^^ a2 ^^^ a3) ^^^ (b1 ^^^ b2 ^^^ b3 ^^^ b0)) ^^^ (c2 ^^^ c3 ^^^ c0 ^^^ c1)) ^^^ (f3 ^^^ f0 ^^^ f1 ^^^ f2) =
    (a0 ^^^ (b0 ^^^ (c0 ^^^ f0))) ^^^ ((a1 ^^^ (b1 ^^^ (c1 ^^^ f1))) ^^^ ((a2 ^^^ (b2 ^^^ (c2 ^^^ f2))) ^^^ (a3 ^^^ (b3 ^^^ (c3 ^^^ f3))))) := by
  ac_rfl
/-- one column, there and back -/
theorem colDE (x0 x1 x2 x3 : Nat) (h0 : x0 < 256) (h1 : x1 < 256) (h2 : x2 < 256) (h3 : x3 < 256) :
    ((mul 14 (mul 2 x0 ^^^ mul 3 x1 ^^^ mul 1 x2 ^^^ mul 1 x3) ^^^ mul 11 (mul 2 x1 ^^^ mul 3 x2 ^^^ mul 1 x3 ^^^ mul 1 x0)) ^^^ mul 13 (mul 2 x2 ^^^ mul 3 x3 ^^^ mul 1 x0 ^^^ mul 1 x1)) ^^^ mul 9 (mul 2 x3 ^^^ mul 3 x0 ^^^ mul 1 x1 ^^^ mul 1 x2) = x0 := by
  simp only [mul_add 14 _ _ (by omega), mul_add 11 _ _ (by omega), mul_add 13 _ _ (by omega), mul_add 9 _ _ (by omega)]
  rw [ac16, d0 x0 h0, d1 x1 h1, d2 x2 h2, d3 x3 h3]
  simp
theorem colED (x0 x1 x2 x3 : Nat) (h0 : x0 < 256) (h1 : x1 < 256) (h2 : x2 < 256) (h3 : x3 < 256) :
    ((mul 2 (mul 14 x0 ^^^ mul 11 x1 ^^^ mul 13 x2 ^^^ mul 9 x3) ^^^ mul 3 (mul 14 x1 ^^^ mul 11 x2 ^^^ mul 13 x3 ^^^ mul 9 x0)) ^^^ mul 1 (mul 14 x2 ^^^ mul 11 x3 ^^^ mul 13 x0 ^^^ mul 9 x1)) ^^^ mul 1 (mul 14 x3 ^^^ mul 11 x0 ^^^ mul 13 x1 ^^^ mul 9 x2) = x0 := by
  simp only [mul_add 2 _ _ (by omega), mul_add 3 _ _ (by omega), mul_add 1 _ _ (by omega)]
  rw [ac16, e0 x0 h0, e1 x1 h1, e2 x2 h2, e3 x3 h3]
  simp
theorem nxt_nxt : ∀ i < 16, ∀ k < 4, ∀ l < 4, nxt (nxt i k) l = nxt i ((k + l) % 4) := by decide
theorem nxt_zero : ∀ i < 16, nxt i 0 = i := by decide
theorem mix_four (c f : Nat → Nat) (i : Nat) : mix c f i = mul (c 0) (f (nxt i 0)) ^^^ mul (c 1) (f (nxt i 1)) ^^^ mul (c 2) (f (nxt i 2)) ^^^ mul (c 3) (f (nxt i 3)) := by
  show (((0 ^^^ _) ^^^ _) ^^^ _) ^^^ _ = _
  rw [Nat.zero_xor]
theorem mixE (f : Nat → Nat) (i : Nat) : mix fE f i = mul 2 (f (nxt i 0)) ^^^ mul 3 (f (nxt i 1)) ^^^ mul 1 (f (nxt i 2)) ^^^ mul 1 (f (nxt i 3)) := mix_four fE f i
theorem mixD (f : Nat → Nat) (i : Nat) : mix fD f i = mul 14 (f (nxt i 0)) ^^^ mul 11 (f (nxt i 1)) ^^^ mul 13 (f (nxt i 2)) ^^^ mul 9 (f (nxt i 3)) := mix_four fD f i
theorem mixD_mixE {f : Nat → Nat} (h : By16 f) : Eq16 (mix fD (mix fE f)) f := by
  intro i hi
  have n0 := nxt_lt i 0 hi; have n1 := nxt_lt i 1 hi; have n2 := nxt_lt i 2 hi; have n3 := nxt_lt i 3 hi
  have N : ∀ k < 4, ∀ l < 4, nxt (nxt i k) l = nxt i ((k + l) % 4) := nxt_nxt i hi
  rw [mixD, mixE, mixE, mixE, mixE]
  rw [N 0 (by omega) 0 (by omega), N 0 (by omega) 1 (by omega), N 0 (by omega) 2 (by omega), N 0 (by omega) 3 (by omega),
    N 1 (by omega) 0 (by omega), N 1 (by omega) 1 (by omega), N 1 (by omega) 2 (by omega), N 1 (by omega) 3 (by omega),
    N 2 (by omega) 0 (by omega), N 2 (by omega) 1 (by omega), N 2 (by omega) 2 (by omega), N 2 (by omega) 3 (by omega),
    N 3 (by omega) 0 (by omega), N 3 (by omega) 1 (by omega), N 3 (by omega) 2 (by omega), N 3 (by omega) 3 (by omega)]
  have := colDE (f (nxt i 0)) (f (nxt i 1)) (f (nxt i 2)) (f (nxt i 3)) (h _ n0) (h _ n1) (h _ n2) (h _ n3)
  rw [nxt_zero i hi] at this ⊢
  exact this
theorem mixE_mixD {f : Nat → Nat} (h : By16 f) : Eq16 (mix fE (mix fD f)) f := by
  intro i hi
  have n0 := nxt_lt i 0 hi; have n1 := nxt_lt i 1 hi; have n2 := nxt_lt i 2 hi; have n3 := nxt_lt i 3 hi
  have N : ∀ k < 4, ∀ l < 4, nxt (nxt i k) l = nxt i ((k + l) % 4) := nxt_nxt i hi
  rw [mixE, mixD, mixD, mixD, mixD]
  rw [N 0 (by omega) 0 (by omega), N 0 (by omega) 1 (by omega), N 0 (by omega) 2 (by omega), N 0 (by omega) 3 (by omega),
    N 1 (by omega) 0 (by omega), N 1 (by omega) 1 (by omega), N 1 (by omega) 2 (by omega), N 1 (by omega) 3 (by omega),
    N 2 (by omega) 0 (by omega), N 2 (by omega) 1 (by omega), N 2 (by omega) 2 (by omega), N 2 (by omega) 3 (by omega),
    N 3 (by omega) 0 (by omega), N 3 (by omega) 1 (by omega), N 3 (by omega) 2 (by omega), N 3 (by omega) 3 (by omega)]
  have := colED (f (nxt i 0)) (f (nxt i 1)) (f (nxt i 2)) (f (nxt i 3)) (h _ n0) (h _ n1) (h _ n2) (h _ n3)
  rw [nxt_zero i hi] at this ⊢
  exact this

/-- enciphered as far as round r, of N rounds -/
def encTo (ws : Nat → Nat) (N : Nat) (b : Nat → Nat) : Nat → Nat → Nat
  | 0 => rk ws 0 b
  | r + 1 => rk ws (r + 1) (if r + 1 < N then mix fE (rows (each box (encTo ws N b r))) else rows (each box (encTo ws N b r)))
/-- deciphered, j rounds from the last one on -/
def decTo (ws : Nat → Nat) (N : Nat) (b : Nat → Nat) : Nat → Nat → Nat
  | 0 => b
  | j + 1 => each unbox (rowsB (if N - j < N then mix fD (rk ws (N - j) (decTo ws N b j)) else rk ws (N - j) (decTo ws N b j)))
def enc (ws : Nat → Nat) (N : Nat) (b : Nat → Nat) : Nat → Nat := encTo ws N b N
def dec (ws : Nat → Nat) (N : Nat) (b : Nat → Nat) : Nat → Nat := rk ws 0 (decTo ws N b N)

section
variable {ws : Nat → Nat} {N n : Nat} (hw : ∀ i, i < n → ws i < 256) (hn : 16 * N + 16 ≤ n)
include hw hn
theorem encTo_by {b : Nat → Nat} (hb : By16 b) (r : Nat) (hr : r ≤ N) : By16 (encTo ws N b r) := by
  induction r with
  | zero => exact rk_by (r := 0) hb hw (by omega)
  | succ r ih =>
    refine rk_by ?_ hw (by omega)
    split
    · exact mix_by _ _ fE_lt
    · exact rows_by (box_by (ih (by omega)))
theorem decTo_by {b : Nat → Nat} (hb : By16 b) (j : Nat) (hj : j ≤ N) : By16 (decTo ws N b j) := by
  induction j with
  | zero => exact hb
  | succ j ih =>
    refine unbox_by (rowsB_by ?_)
    split
    · exact mix_by _ _ fD_lt
    · exact rk_by (ih (by omega)) hw (by omega)
theorem enc_by {b : Nat → Nat} (hb : By16 b) : By16 (enc ws N b) := encTo_by hw hn hb N (Nat.le_refl _)
theorem dec_by {b : Nat → Nat} (hb : By16 b) : By16 (dec ws N b) := rk_by (r := 0) (decTo_by hw hn hb N (Nat.le_refl _)) hw (by omega)
theorem dec_back {b : Nat → Nat} (hb : By16 b) (j : Nat) (hj : j ≤ N) : Eq16 (decTo ws N (enc ws N b) j) (encTo ws N b (N - j)) := by
  induction j with
  | zero => exact Eq16.refl _
  | succ j ih =>
    have ih := ih (by omega)
    obtain ⟨r, hr⟩ : ∃ r, N - j = r + 1 := ⟨N - j - 1, by omega⟩
    have hb' := encTo_by hw hn hb r (by omega)
    have e : N - (j + 1) = r := by omega
    rw [e]
    show Eq16 (each unbox (rowsB (if N - j < N then _ else _))) _
    rw [hr] at ih ⊢
    have h1 : Eq16 (rk ws (r + 1) (decTo ws N (enc ws N b) j)) (if r + 1 < N then mix fE (rows (each box (encTo ws N b r))) else rows (each box (encTo ws N b r))) := by
      refine (rk_ext ws (r + 1) ih).trans ?_
      show Eq16 (rk ws (r + 1) (rk ws (r + 1) _)) _
      rw [rk_rk]
      exact Eq16.refl _
    have h2 : Eq16 (if r + 1 < N then mix fD (rk ws (r + 1) (decTo ws N (enc ws N b) j)) else rk ws (r + 1) (decTo ws N (enc ws N b) j)) (rows (each box (encTo ws N b r))) := by
      by_cases hlt : r + 1 < N
      · rw [if_pos hlt] at h1 ⊢
        exact (mix_ext fD h1).trans (mixD_mixE (rows_by (box_by hb')))
      · rw [if_neg hlt] at h1 ⊢
        exact h1
    exact (each_ext unbox ((rowsB_ext h2).trans (rowsB_rows _))).trans (unbox_each hb')
theorem dec_enc {b : Nat → Nat} (hb : By16 b) : Eq16 (dec ws N (enc ws N b)) b := by
  have h := dec_back hw hn hb N (Nat.le_refl _)
  rw [Nat.sub_self] at h
  refine (rk_ext ws 0 h).trans ?_
  show Eq16 (rk ws 0 (rk ws 0 b)) b
  rw [rk_rk]
  exact Eq16.refl _
theorem enc_back {b : Nat → Nat} (hb : By16 b) (r : Nat) (hr : r ≤ N) : Eq16 (encTo ws N (dec ws N b) r) (decTo ws N b (N - r)) := by
  induction r with
  | zero =>
    show Eq16 (rk ws 0 (rk ws 0 _)) _
    rw [rk_rk]
    exact Eq16.refl _
  | succ r ih =>
    have ih := ih (by omega)
    obtain ⟨j, hj⟩ : ∃ j, N - r = j + 1 := ⟨N - r - 1, by omega⟩
    have e : N - (r + 1) = j := by omega
    have e2 : N - j = r + 1 := by omega
    have hb' := decTo_by hw hn hb j (by omega)
    rw [hj] at ih
    rw [e]
    have ih' : Eq16 (encTo ws N (dec ws N b) r) (each unbox (rowsB (if r + 1 < N then mix fD (rk ws (r + 1) (decTo ws N b j)) else rk ws (r + 1) (decTo ws N b j)))) := by
      have : decTo ws N b (j + 1) = each unbox (rowsB (if N - j < N then mix fD (rk ws (N - j) (decTo ws N b j)) else rk ws (N - j) (decTo ws N b j))) := rfl
      rw [this, e2] at ih
      exact ih
    have hk : By16 (rk ws (r + 1) (decTo ws N b j)) := rk_by hb' hw (by omega)
    have h1 : Eq16 (rows (each box (encTo ws N (dec ws N b) r))) (if r + 1 < N then mix fD (rk ws (r + 1) (decTo ws N b j)) else rk ws (r + 1) (decTo ws N b j)) := by
      refine (rows_ext ((each_ext box ih').trans (box_each (rowsB_by ?_)))).trans (rows_rowsB _)
      split
      · exact mix_by _ _ fD_lt
      · exact hk
    have h2 : Eq16 (if r + 1 < N then mix fE (rows (each box (encTo ws N (dec ws N b) r))) else rows (each box (encTo ws N (dec ws N b) r))) (rk ws (r + 1) (decTo ws N b j)) := by
      by_cases hlt : r + 1 < N
      · rw [if_pos hlt] at h1 ⊢
        exact (mix_ext fE h1).trans (mixE_mixD hk)
      · rw [if_neg hlt] at h1 ⊢
        exact h1
    refine (rk_ext ws (r + 1) h2).trans ?_
    rw [rk_rk]
    exact Eq16.refl _
theorem enc_dec {b : Nat → Nat} (hb : By16 b) : Eq16 (enc ws N (dec ws N b)) b := by
  have h := enc_back hw hn hb N (Nat.le_refl _)
  rw [Nat.sub_self] at h
  exact h
end
theorem encTo_ext {ws ws' : Nat → Nat} {N n : Nat} {b b' : Nat → Nat} (hw : ∀ i, i < n → ws i = ws' i) (hn : 16 * N + 16 ≤ n) (hb : Eq16 b b') (r : Nat) (hr : r ≤ N) : Eq16 (encTo ws N b r) (encTo ws' N b' r) := by
  induction r with
  | zero => intro i hi; show b i ^^^ ws (16 * 0 + i) = b' i ^^^ ws' (16 * 0 + i); rw [hb i hi, hw _ (by omega)]
  | succ r ih =>
    have h := rows_ext (each_ext box (ih (by omega)))
    intro i hi
    show (if r + 1 < N then mix fE (rows (each box (encTo ws N b r))) else rows (each box (encTo ws N b r))) i ^^^ ws (16 * (r + 1) + i) = (if r + 1 < N then mix fE (rows (each box (encTo ws' N b' r))) else rows (each box (encTo ws' N b' r))) i ^^^ ws' (16 * (r + 1) + i)
    rw [hw _ (by omega)]
    by_cases hlt : r + 1 < N
    · rw [if_pos hlt, if_pos hlt, mix_ext fE h i hi]
    · rw [if_neg hlt, if_neg hlt, h i hi]

/-- x to the k in the field -/
def pw : Nat → Nat
  | 0 => 1
  | k + 1 => mul (pw k) 2
theorem pw_lt (k : Nat) : pw k < 256 := by
  induction k with
  | zero => show 1 < 256; omega
  | succ k ih => exact mul_lt _ _ ih
/-- what the word ahead becomes: byte k, at the t-th word behind a key of L bytes, the words so far f -/
def nw (L : Nat) (f : Nat → Nat) (t k : Nat) : Nat :=
  if t % (L / 4) = 0 then box (f (L + 4 * t - 4 + (k + 1) % 4)) ^^^ (if k = 0 then pw (t / (L / 4)) else 0)
  else if L = 32 ∧ t % 8 = 4 then box (f (L + 4 * t - 4 + k)) else f (L + 4 * t - 4 + k)
/-- the words' bytes behind t words -/
def ex (L : Nat) (key : Nat → Nat) : Nat → Nat → Nat
  | 0 => fun i => if i < L then key i else 0
  | t + 1 => fun i => if L + 4 * t ≤ i ∧ i < L + 4 * t + 4 then ex L key t (i - L) ^^^ nw L (ex L key t) t (i - (L + 4 * t)) else ex L key t i
theorem nw_lt (L : Nat) (f : Nat → Nat) (t k : Nat) (hf : ∀ i, f i < 256) : nw L f t k < 256 := by
  unfold nw
  split
  · refine xor_lt (box_lt _ (hf _)) ?_
    split
    · exact pw_lt _
    · omega
  · split
    · exact box_lt _ (hf _)
    · exact hf _
theorem ex_lt (L : Nat) (key : Nat → Nat) (t : Nat) (hk : ∀ i, i < L → key i < 256) : ∀ i, ex L key t i < 256 := by
  induction t with
  | zero => intro i; show (if i < L then key i else 0) < 256; split; exact hk i ‹_›; omega
  | succ t ih =>
    intro i
    show (if _ then _ else _) < 256
    split
    · exact xor_lt (ih _) (nw_lt L _ t _ ih)
    · exact ih i
/-- a key's rounds: 0 if no key has so many bytes -/
def rnd (L : Nat) : Nat := if L = 32 then 14 else if L = 24 then 12 else if L = 16 then 10 else 0
/-- how many words lie behind the key's own -/
def more (L : Nat) : Nat := 4 * (rnd L + 1) - L / 4
def words (L : Nat) (key : Nat → Nat) : Nat → Nat := ex L key (more L)
theorem ex_ext (L : Nat) {key key' : Nat → Nat} (h : ∀ i, i < L → key i = key' i) (t : Nat) : ex L key t = ex L key' t := by
  induction t with
  | zero => funext i; show (if i < L then key i else 0) = (if i < L then key' i else 0); split; exact h i ‹_›; rfl
  | succ t ih => funext i; show (if _ then _ else _) = (if _ then _ else _); rw [ih]
/-- the words while the t-th word is written: k bytes of it -/
def exK (L : Nat) (key : Nat → Nat) (t k : Nat) : Nat → Nat := fun i => if L + 4 * t ≤ i ∧ i < L + 4 * t + k then ex L key t (i - L) ^^^ nw L (ex L key t) t (i - (L + 4 * t)) else ex L key t i
theorem exK_zero (L : Nat) (key : Nat → Nat) (t : Nat) : exK L key t 0 = ex L key t := by
  funext i; unfold exK; rw [if_neg (by omega)]
theorem exK_four (L : Nat) (key : Nat → Nat) (t : Nat) : exK L key t 4 = ex L key (t + 1) := rfl
theorem exK_old (L : Nat) (key : Nat → Nat) (t k : Nat) (hk : k < L) : exK L key t k (4 * t + k) = ex L key t (4 * t + k) := by
  unfold exK; rw [if_neg (by omega)]
theorem exK_put (L : Nat) (key : Nat → Nat) (t k : Nat) : ∀ j, (if j = L + 4 * t + k then ex L key t (4 * t + k) ^^^ nw L (ex L key t) t k else exK L key t k j) = exK L key t (k + 1) j := by
  intro j
  unfold exK
  by_cases h : j = L + 4 * t + k
  · subst h
    rw [if_pos rfl, if_pos (by omega), show L + 4 * t + k - L = 4 * t + k by omega, show L + 4 * t + k - (L + 4 * t) = k by omega]
  · rw [if_neg h]
    by_cases h2 : L + 4 * t ≤ j ∧ j < L + 4 * t + k
    · rw [if_pos h2, if_pos (by omega)]
    · rw [if_neg h2, if_neg (by omega)]
end Go.Proofs.YtdodflnmhgnpeaaGreatDoor.Aes
