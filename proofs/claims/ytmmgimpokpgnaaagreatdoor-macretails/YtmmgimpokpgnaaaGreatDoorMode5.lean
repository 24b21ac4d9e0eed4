/-
  mode.Chained of AES and TDES; what is refused. Texts of blocks, alone and chained: back undoes forth, parts go on.
-/
import Derived.Test.YtmmgimpokpgnaaaGreatDoorMode4
namespace Go.Proofs.YtmmgimpokpgnaaaGreatDoor.Md
open Mem Bk Go.ChangeShapes Go.WideShapes Go.ChangeAt Go.RowKit
def stF (k L : Nat) (key : Nat → Nat) : (Nat → Nat) → (Nat → Nat) → (Nat → Nat) × (Nat → Nat) := fun s y => (tc k L key false (xr y s), tc k L key false (xr y s))
def stB (k L : Nat) (key : Nat → Nat) : (Nat → Nat) → (Nat → Nat) → (Nat → Nat) × (Nat → Nat) := fun s y => (xr (tc k L key true y) s, y)
def stC (k L : Nat) (key : Nat → Nat) (bk : Bool) := if bk then stB k L key else stF k L key
/-- the bytes of a text, chained from a start -/
def chainF (k L : Nat) (key : Nat → Nat) (bk : Bool) (s x : Nat → Nat) (N : Nat) : Nat → Nat := (run (stC k L key bk) (sz k) (fun j i => x (j * sz k + i)) s (List.range N)).2.1
/-- what a chain's closure hangs on -/
def CInv (w : World) (gc k : Nat) (s : Nat → Nat) (W : World) : Prop := Below w.heap.size w W ∧ Blk W w.heap.size 29 #[.pointer (some ⟨gc, 0, none⟩)] ∧ AhAt (w.heap.size + 2) (w.heap.size + 1) (sz k) s W
set_option maxRecDepth 100000 in
set_option maxHeartbeats 1000000 in
theorem chained_any (w : World) (p : Pl) (k gc base L : Nat) (key : Nat → Nat) (ads : Addr) (cs : Nat) (s : Nat → Nat) (A : Option Addr) (N M c : Nat) (bk : Bool) (x : Nat → Nat) (hk3 : k ≠ 3) (h : CiAt w p k gc base L key) (hM : M = N * sz k) (hN : M ≤ 100000) (hc : M ≤ c) (hA : A = none → M = 0) (hx : ∀ i, i < M → x i < 256) (hR : Reads w w.heap.size A M x)
    (has : ads.block < w.heap.size) (hsc : ∀ i, i < sz k → w.cell? (ads.add i) = some (.int .u8 ((s i : Nat) : Int))) (hs : ∀ i, i < sz k → s i < 256) :
    Calls Tryz.prog 22 #[.pointer (some ⟨gc, 0, none⟩), .slice (some ads) (sz k) cs, .slice A M c, .bool bk] w fun e w' => ∃ v, e = .returned (.tuple #[v, .nilIface]) ∧ Mem.Own w' w.heap.size 5 1 v M (chainF k L key bk s x N) ∧ Below w.heap.size w w' := by
  have hB1 : Below w.heap.size w ((w.alloc (.cells #[.pointer (some ⟨gc, 0, none⟩)] 29)).alloc (.cells #[.slice (some ads) (sz k) cs] 22)) := ((Below.refl _ w).alloc (Nat.le_refl _) _).alloc (by simp) _
  have hkc : Blk ((w.alloc (.cells #[.pointer (some ⟨gc, 0, none⟩)] 29)).alloc (.cells #[.slice (some ads) (sz k) cs] 22)) w.heap.size 29 #[.pointer (some ⟨gc, 0, none⟩)] := (Blk.fresh _ _ _).alloc _
  have hkb : Blk ((w.alloc (.cells #[.pointer (some ⟨gc, 0, none⟩)] 29)).alloc (.cells #[.slice (some ads) (sz k) cs] 22)) (w.heap.size + 1) 22 #[.slice (some ads) (sz k) cs] := blk_fresh (by simp) _ _
  have hs1 : ((w.alloc (.cells #[.pointer (some ⟨gc, 0, none⟩)] 29)).alloc (.cells #[.slice (some ads) (sz k) cs] 22)).heap.size = w.heap.size + 2 := by simp
  have hAh : AhAt (w.heap.size + 2) (w.heap.size + 1) (sz k) s ((w.alloc (.cells #[.pointer (some ⟨gc, 0, none⟩)] 29)).alloc (.cells #[.slice (some ads) (sz k) cs] 22)) :=
    ⟨ads, cs, hkb, hs, .inl ⟨by omega, by omega, fun i hi => (hB1.cell (p := ads.add i) (by rw [add_block]; exact has)).trans (hsc i hi)⟩⟩
  have hAS : ∀ ad, A = some ad → 0 < M → ad.block ∉ [w.heap.size + 1] := fun ad e h0 => by
    obtain ⟨ad', e', hb, -⟩ := hR h0
    rw [e] at e'
    cases e'
    simp
    omega
  have hdep : Dep (w.heap.size + 2) (CInv w gc k) :=
    fun _ W W' hW hB ha => ⟨hW.1.trans (hB.mono (by omega)), hW.2.1.below hB (by omega), hW.2.2.keep (by omega) hB ha⟩
  have HC := hid h
  have HM : M % sz k = 0 := by rw [hM]; exact Nat.mul_mod_left _ _
  have hHM : decide (M % sz k = 0) = true := decide_eq_true HM
  have hen1 : ∀ args w, (callFunc 72 args).run Tryz.prog w = .ok (.enter 72 args) w := enters_of Tryz.func72 (by kernel_rfl) rfl
  have hen2 : ∀ args w, (callFunc 71 args).run Tryz.prog w = .ok (.enter 71 args) w := enters_of Tryz.func71 (by kernel_rfl) rfl
  cases bk
  · have HE := hid (each_any (CInv w gc k) (stC k L key false) [w.heap.size + 1] 72 #[.pointer (some ⟨w.heap.size + 1, 0, none⟩), .pointer (some ⟨w.heap.size, 0, none⟩)] (sz k) N M c A x s ((w.alloc (.cells #[.pointer (some ⟨gc, 0, none⟩)] 29)).alloc (.cells #[.slice (some ads) (sz k) cs] 22))
      (sz_or k) hM hN hc hA hx ((hR.below hB1).more (by omega)) hAS (by simp) (by rw [hs1]; exact hdep) ⟨hB1, hkc, hAh⟩ hen1
      (fun s W ad y hW hws had hadS hcl hy => by
        rw [show #[Value.slice (some ad) (sz k) (sz k)] ++ #[.pointer (some ⟨w.heap.size + 1, 0, none⟩), .pointer (some ⟨w.heap.size, 0, none⟩)] = #[.slice (some ad) (sz k) (sz k), .pointer (some ⟨w.heap.size + 1, 0, none⟩), .pointer (some ⟨w.heap.size, 0, none⟩)] by simp]
        refine (ch_any W p k gc base L key ad (sz k) _ _ (w.heap.size + 2) s y hk3 (h.keep hW.1) hW.2.1 hW.2.2 (by omega) (by omega) hcl hy).mono ?_
        rintro e W' ⟨hK, hA', g, rfl, hbg⟩
        exact ⟨hK, ⟨hW.1.trans (hK.below (by simp) hW.1.size), hK.blk hW.2.1 (by simp), hA'⟩, g, _, rfl, hbg⟩))
    clear h hM hx hR hkc hkb HM hAh hAS hdep hsc hs hen1 hen2
    go_enter Tryz.func22, Tryz.ntmps22
    go_wp2_with (first
      | (go_at_call 46; refine (sizeOf_any _ p k gc base L key HC.out).mono ?_; rintro e w1 ⟨rfl, rfl⟩)
      | (go_at_call 47; refine (whole_any A M c (sz k) (sz_or k) hN _).mono ?_; rintro e w1 ⟨rfl, rfl⟩; rw [hHM])
      | (go_at_call 51; refine (chain_mk _ _ _ _ _).mono ?_; rintro e w1 ⟨rfl, rfl⟩)
      | (go_at_call 48; refine HE.out.mono ?_; rintro e w1 ⟨hK, v, rfl, ho, -⟩))
    go_ret2
    exact ⟨v, rfl, own_base ho (by omega), hB1.trans ((hK.below (B := w.heap.size) (by simp) (by omega)))⟩
  · have HE := hid (each_any (CInv w gc k) (stC k L key true) [w.heap.size + 1] 71 #[.pointer (some ⟨w.heap.size, 0, none⟩), .pointer (some ⟨w.heap.size + 1, 0, none⟩)] (sz k) N M c A x s ((w.alloc (.cells #[.pointer (some ⟨gc, 0, none⟩)] 29)).alloc (.cells #[.slice (some ads) (sz k) cs] 22))
      (sz_or k) hM hN hc hA hx ((hR.below hB1).more (by omega)) hAS (by simp) (by rw [hs1]; exact hdep) ⟨hB1, hkc, hAh⟩ hen2
      (fun s W ad y hW hws had hadS hcl hy => by
        rw [show #[Value.slice (some ad) (sz k) (sz k)] ++ #[.pointer (some ⟨w.heap.size, 0, none⟩), .pointer (some ⟨w.heap.size + 1, 0, none⟩)] = #[.slice (some ad) (sz k) (sz k), .pointer (some ⟨w.heap.size, 0, none⟩), .pointer (some ⟨w.heap.size + 1, 0, none⟩)] by simp]
        refine (un_any W p k gc base L key ad (sz k) _ _ (w.heap.size + 2) s y hk3 (h.keep hW.1) hW.2.1 hW.2.2 (by omega) (by omega) (by simpa using hadS) hcl hy).mono ?_
        rintro e W' ⟨hK, hA', g, rfl, hbg⟩
        exact ⟨hK, ⟨hW.1.trans (hK.below (by simp) hW.1.size), hK.blk hW.2.1 (by simp), hA'⟩, g, _, rfl, hbg⟩))
    clear h hM hx hR hkc hkb HM hAh hAS hdep hsc hs hen1 hen2
    go_enter Tryz.func22, Tryz.ntmps22
    go_wp2_with (first
      | (go_at_call 46; refine (sizeOf_any _ p k gc base L key HC.out).mono ?_; rintro e w1 ⟨rfl, rfl⟩)
      | (go_at_call 47; refine (whole_any A M c (sz k) (sz_or k) hN _).mono ?_; rintro e w1 ⟨rfl, rfl⟩; rw [hHM])
      | (go_at_call 50; refine (unchain_mk _ _ _ _ _).mono ?_; rintro e w1 ⟨rfl, rfl⟩)
      | (go_at_call 48; refine HE.out.mono ?_; rintro e w1 ⟨hK, v, rfl, ho, -⟩))
    go_ret2
    exact ⟨v, rfl, own_base ho (by omega), hB1.trans ((hK.below (B := w.heap.size) (by simp) (by omega)))⟩
set_option maxRecDepth 100000 in
theorem alone_size (w : World) (p : Pl) (k gc base L : Nat) (key : Nat → Nat) (A : Option Addr) (M c : Nat) (bk : Bool) (h : CiAt w p k gc base L key) (hM : M % sz k ≠ 0) (hN : M ≤ 100000) :
    Calls Tryz.prog 21 #[.pointer (some ⟨gc, 0, none⟩), .slice A M c, .bool bk] w fun e w' => e = .returned (.tuple #[.slice none 0 0, .iface 70 (.int .i64 2)]) ∧ Below w.heap.size w w' := by
  have hB1 : Below w.heap.size w ((w.alloc (.cells #[.pointer (some ⟨gc, 0, none⟩)] 29)).alloc (.cells #[.bool bk] 4)) := ((Below.refl _ w).alloc (Nat.le_refl _) _).alloc (by simp) _
  have HC := hid (h.keep hB1)
  have hHM : decide (M % sz k = 0) = false := decide_eq_false hM
  clear h hM
  go_enter Tryz.func21, Tryz.ntmps21
  go_wp2_with (first
    | (go_at_call 46; refine (sizeOf_any _ p k gc base L key HC.out).mono ?_; rintro e w1 ⟨rfl, rfl⟩)
    | (go_at_call 47; refine (whole_any A M c (sz k) (sz_or k) hN _).mono ?_; rintro e w1 ⟨rfl, rfl⟩; rw [hHM]))
  go_ret2
  exact ⟨rfl, hB1⟩
theorem run_at {σ : Type} (st : σ → (Nat → Nat) → (Nat → Nat) × σ) (n : Nat) (hn : 0 < n) (xb : Nat → Nat → Nat) (s0 : σ) : ∀ N i, i < N * n → (run st n xb s0 (List.range N)).2.1 i = (st (run st n xb s0 (List.range (i / n))).1 (xb (i / n))).1 (i % n) := by
  intro N
  induction N with
  | zero => intro i hi; omega
  | succ N ih =>
    intro i hi
    rw [List.range_succ, run_snoc, run_len]
    simp only [List.length_range]
    unfold cat
    by_cases h : i < N * n
    · rw [if_pos h, ih i h]
    · rw [if_neg h]
      rw [Nat.succ_mul] at hi
      have h1 : i / n = N := by
        rw [Nat.div_eq_iff hn]
        constructor
        · omega
        · omega
      have h2 : i % n = i - N * n := by
        have := Nat.div_add_mod i n
        rw [h1, Nat.mul_comm] at this
        omega
      rw [h1, h2]
theorem run_next {σ : Type} (st : σ → (Nat → Nat) → (Nat → Nat) × σ) (n : Nat) (xb : Nat → Nat → Nat) (s0 : σ) (j : Nat) : (run st n xb s0 (List.range (j + 1))).1 = (st (run st n xb s0 (List.range j)).1 (xb j)).2 := by
  rw [List.range_succ, run_snoc]
theorem run_zero {σ : Type} (st : σ → (Nat → Nat) → (Nat → Nat) × σ) (n : Nat) (xb : Nat → Nat → Nat) (s0 : σ) : (run st n xb s0 (List.range 0)).1 = s0 := rfl
/-- alike on the first n -/
def Eqn (n : Nat) (f g : Nat → Nat) : Prop := ∀ i, i < n → f i = g i
theorem Eqn.refl (n : Nat) (f : Nat → Nat) : Eqn n f f := fun _ _ => rfl
theorem Eqn.symm {n : Nat} {f g : Nat → Nat} (h : Eqn n f g) : Eqn n g f := fun i hi => (h i hi).symm
theorem Eqn.trans {n : Nat} {f g e : Nat → Nat} (h : Eqn n f g) (h' : Eqn n g e) : Eqn n f e := fun i hi => (h i hi).trans (h' i hi)
theorem xr_ext {n : Nat} {f g f' g' : Nat → Nat} (h : Eqn n f f') (h' : Eqn n g g') : Eqn n (xr f g) (xr f' g') := fun i hi => by unfold xr; rw [h i hi, h' i hi]
theorem xr_xr (n : Nat) (f g : Nat → Nat) : Eqn n (xr (xr f g) g) f := fun i _ => by
  unfold xr
  rw [Nat.xor_assoc, Nat.xor_self, Nat.xor_zero]
section
variable {k L : Nat} {key : Nat → Nat} {bk : Bool} {x y s : Nat → Nat}
theorem tc_ext (hf : fits k L) (hk3 : k ≠ 3) (h : Eqn (sz k) x y) : Eqn (sz k) (tc k L key bk x) (tc k L key bk y) := by
  rcases hf with ⟨rfl, hL⟩ | ⟨rfl, hL⟩ | ⟨rfl, hL⟩
  · unfold tc
    rw [if_pos rfl, if_pos rfl]
    cases bk
    · exact Aes.encTo_ext (n := Aes.wsz L) (fun _ _ => rfl) (ws_le L) h (Aes.rnd L) (Nat.le_refl _)
    · exact Aes.dec_ext h
  · unfold tc
    rw [if_neg (by omega), if_neg (by omega), tdes_ext h]
    exact Eqn.refl _ _
  · exact absurd rfl hk3
theorem tc_back (hf : fits k L) (hk3 : k ≠ 3) (hk : ∀ i, i < L → key i < 256) (hx : ∀ i, i < sz k → x i < 256) : Eqn (sz k) (tc k L key (!bk) (tc k L key bk x)) x := by
  rcases hf with ⟨rfl, hL⟩ | ⟨rfl, hL⟩ | ⟨rfl, hL⟩
  · unfold tc
    simp only [if_true]
    cases bk
    · exact Aes.dec_enc (ws_lt L hk) (ws_le L) hx
    · exact Aes.enc_dec (ws_lt L hk) (ws_le L) hx
  · unfold tc
    simp only [show ¬ (2 : Nat) = 1 by omega, if_false]
    exact fun i hi => Des.tdes_back L key x hx bk i hi
  · exact absurd rfl hk3
theorem sz_pos (k : Nat) : 0 < sz k := by rcases sz_or k with h | h <;> omega
theorem part_lt {N i : Nat} (hi : i < N * sz k) : i / sz k < N ∧ i % sz k < sz k ∧ i / sz k * sz k + i % sz k = i :=
  ⟨Nat.div_lt_of_lt_mul (by rw [Nat.mul_comm]; exact hi), Nat.mod_lt _ (sz_pos k), by rw [Nat.mul_comm]; exact Nat.div_add_mod i (sz k)⟩
theorem in_lt {N j r : Nat} (hj : j < N) (hr : r < sz k) : j * sz k + r < N * sz k := by
  have := Nat.mul_le_mul_right (sz k) (show j + 1 ≤ N from hj)
  rw [Nat.succ_mul] at this
  omega
theorem in_at {j r : Nat} (hr : r < sz k) : (j * sz k + r) / sz k = j ∧ (j * sz k + r) % sz k = r := by
  constructor
  · rw [Nat.add_comm, Nat.add_mul_div_right _ _ (sz_pos k), Nat.div_eq_of_lt hr, Nat.zero_add]
  · rw [Nat.add_comm, Nat.add_mul_mod_self_right, Nat.mod_eq_of_lt hr]
/-- block j of a text -/
def bl (k : Nat) (x : Nat → Nat) : Nat → Nat → Nat := fun j i => x (j * sz k + i)
theorem alone_at {N i : Nat} (hi : i < N * sz k) : aloneF k L key bk x N i = tc k L key bk (bl k x (i / sz k)) (i % sz k) := run_at _ _ (sz_pos k) _ _ N i hi
theorem alone_blk {N j : Nat} (hj : j < N) : Eqn (sz k) (bl k (aloneF k L key bk x N) j) (tc k L key bk (bl k x j)) := fun r hr => by
  show aloneF k L key bk x N (j * sz k + r) = _
  rw [alone_at (in_lt hj hr), (in_at hr).1, (in_at hr).2]
theorem bl_lt {N j : Nat} (hx : ∀ i, i < N * sz k → x i < 256) (hj : j < N) : ∀ i, i < sz k → bl k x j i < 256 := fun _ hi => hx _ (in_lt hj hi)
theorem alone_lt {N : Nat} (hf : fits k L) (hk3 : k ≠ 3) (hk : ∀ i, i < L → key i < 256) (hx : ∀ i, i < N * sz k → x i < 256) : ∀ i, i < N * sz k → aloneF k L key bk x N i < 256 := fun i hi => by
  rw [alone_at hi]
  exact tc_lt hk3 hf hk (bl_lt hx (part_lt hi).1) _ (part_lt hi).2.1
theorem alone_back {N : Nat} (hf : fits k L) (hk3 : k ≠ 3) (hk : ∀ i, i < L → key i < 256) (hx : ∀ i, i < N * sz k → x i < 256) : ∀ i, i < N * sz k → aloneF k L key (!bk) (aloneF k L key bk x N) N i = x i := fun i hi => by
  obtain ⟨h1, h2, h3⟩ := part_lt hi
  rw [alone_at hi, tc_ext hf hk3 (alone_blk h1) _ h2, tc_back hf hk3 hk (bl_lt hx h1) _ h2]
  show x _ = x _
  rw [h3]
/-- the block ahead of block j, as it is enciphered -/
def ah (k L : Nat) (key s x : Nat → Nat) (j : Nat) : Nat → Nat := (run (stC k L key false) (sz k) (bl k x) s (List.range j)).1
theorem ah_zero : ah k L key s x 0 = s := rfl
theorem ah_next (j : Nat) : ah k L key s x (j + 1) = tc k L key false (xr (bl k x j) (ah k L key s x j)) := by
  unfold ah
  rw [run_next]
  rfl
theorem ah_lt (hf : fits k L) (hk3 : k ≠ 3) (hk : ∀ i, i < L → key i < 256) (hs : ∀ i, i < sz k → s i < 256) {N : Nat} (hx : ∀ i, i < N * sz k → x i < 256) : ∀ j, j ≤ N → ∀ i, i < sz k → ah k L key s x j i < 256
  | 0, _ => hs
  | j + 1, h => by
    rw [ah_next]
    exact tc_lt hk3 hf hk (xr_by (bl_lt hx h) (ah_lt hf hk3 hk hs hx j (by omega)))
theorem forth_at {N i : Nat} (hi : i < N * sz k) : chainF k L key false s x N i = ah k L key s x (i / sz k + 1) (i % sz k) := by
  rw [ah_next]
  exact run_at (stC k L key false) _ (sz_pos k) (bl k x) s N i hi
theorem forth_blk {N j : Nat} (hj : j < N) : Eqn (sz k) (bl k (chainF k L key false s x N) j) (ah k L key s x (j + 1)) := fun r hr => by
  show chainF k L key false s x N (j * sz k + r) = _
  rw [forth_at (in_lt hj hr), (in_at hr).1, (in_at hr).2]
/-- the block ahead of block j, as it stands -/
def bh (k : Nat) (s x : Nat → Nat) : Nat → Nat → Nat
  | 0 => s
  | j + 1 => bl k x j
theorem bh_run : ∀ j, (run (stC k L key true) (sz k) (bl k x) s (List.range j)).1 = bh k s x j
  | 0 => rfl
  | j + 1 => by rw [run_next]; rfl
theorem back_at {N i : Nat} (hi : i < N * sz k) : chainF k L key true s x N i = xr (tc k L key true (bl k x (i / sz k))) (bh k s x (i / sz k)) (i % sz k) := by
  have h := run_at (stC k L key true) _ (sz_pos k) (bl k x) s N i hi
  rw [bh_run] at h
  exact h
theorem back_blk {N j : Nat} (hj : j < N) : Eqn (sz k) (bl k (chainF k L key true s x N) j) (xr (tc k L key true (bl k x j)) (bh k s x j)) := fun r hr => by
  show chainF k L key true s x N (j * sz k + r) = _
  rw [back_at (in_lt hj hr), (in_at hr).1, (in_at hr).2]
theorem bh_lt {N : Nat} (hs : ∀ i, i < sz k → s i < 256) (hx : ∀ i, i < N * sz k → x i < 256) : ∀ j, j < N + 1 → ∀ i, i < sz k → bh k s x j i < 256
  | 0, _ => hs
  | j + 1, h => bl_lt hx (by omega)
theorem chain_lt {N : Nat} (hf : fits k L) (hk3 : k ≠ 3) (hk : ∀ i, i < L → key i < 256) (hs : ∀ i, i < sz k → s i < 256) (hx : ∀ i, i < N * sz k → x i < 256) : ∀ i, i < N * sz k → chainF k L key bk s x N i < 256 := fun i hi => by
  obtain ⟨h1, h2, h3⟩ := part_lt hi
  cases bk
  · rw [forth_at hi]
    exact ah_lt hf hk3 hk hs hx _ h1 _ h2
  · rw [back_at hi]
    exact xr_by (tc_lt hk3 hf hk (bl_lt hx h1)) (bh_lt hs hx _ (by omega)) _ h2
theorem chain_back {N : Nat} (hf : fits k L) (hk3 : k ≠ 3) (hk : ∀ i, i < L → key i < 256) (hs : ∀ i, i < sz k → s i < 256) (hx : ∀ i, i < N * sz k → x i < 256) : ∀ i, i < N * sz k → chainF k L key (!bk) s (chainF k L key bk s x N) N i = x i := fun i hi => by
  obtain ⟨h1, h2, h3⟩ := part_lt hi
  cases bk
  · show chainF k L key true s (chainF k L key false s x N) N i = x i
    have hb : ∀ j, j < N → Eqn (sz k) (bh k s (chainF k L key false s x N) j) (ah k L key s x j) := fun j hj => by
      cases j with
      | zero => exact Eqn.refl _ _
      | succ j => exact forth_blk (by omega)
    rw [back_at hi, xr_ext ((tc_ext hf hk3 (forth_blk h1)).trans (by rw [ah_next]; exact tc_back hf hk3 hk (xr_by (bl_lt hx h1) (ah_lt hf hk3 hk hs hx _ (by omega))))) (hb _ h1) _ h2, xr_xr (sz k) _ _ _ h2]
    show x _ = x _
    rw [h3]
  · show chainF k L key false s (chainF k L key true s x N) N i = x i
    have ha : ∀ j, j ≤ N → Eqn (sz k) (ah k L key s (chainF k L key true s x N) j) (bh k s x j) := by
      intro j
      induction j with
      | zero => intro _; exact Eqn.refl _ _
      | succ j ih =>
        intro hj
        rw [ah_next]
        refine (tc_ext hf hk3 ((xr_ext (back_blk hj) (ih (by omega))).trans (xr_xr _ _ _))).trans ?_
        exact tc_back (bk := true) hf hk3 hk (bl_lt hx hj)
    rw [forth_at hi, ha _ h1 _ h2]
    show x _ = x _
    rw [h3]
/-- a text in two parts -/
theorem chain_parts {K N : Nat} {s' : Nat → Nat} (hf : fits k L) (hk3 : k ≠ 3) (hs' : Eqn (sz k) s' (ah k L key s x K)) :
    ∀ i, i < (K + N) * sz k → cat (K * sz k) (chainF k L key false s x K) (chainF k L key false s' (fun i => x (K * sz k + i)) N) i = chainF k L key false s x (K + N) i := fun i hi => by
  have hb : ∀ j, Eqn (sz k) (bl k (fun i => x (K * sz k + i)) j) (bl k x (K + j)) := fun j r hr => by
    show x _ = x _
    rw [Nat.add_mul, Nat.add_assoc]
  have ha : ∀ j, Eqn (sz k) (ah k L key s' (fun i => x (K * sz k + i)) j) (ah k L key s x (K + j)) := by
    intro j
    induction j with
    | zero => exact hs'
    | succ j ih =>
      rw [ah_next, ← Nat.add_assoc, ah_next]
      exact tc_ext hf hk3 (xr_ext (hb j) ih)
  unfold cat
  by_cases h : i < K * sz k
  · rw [if_pos h, forth_at h, forth_at hi]
  · rw [if_neg h]
    have hi' : i - K * sz k < N * sz k := by rw [Nat.add_mul] at hi; omega
    obtain ⟨h1, h2, h3⟩ := part_lt hi'
    have e : i = (K + (i - K * sz k) / sz k) * sz k + (i - K * sz k) % sz k := by rw [Nat.add_mul, Nat.add_assoc, h3]; omega
    rw [forth_at hi', forth_at hi, ha _ _ h2]
    have e1 : i / sz k = K + (i - K * sz k) / sz k := by
      have := (in_at (k := k) (j := K + (i - K * sz k) / sz k) h2).1
      rw [← e] at this
      exact this
    have e2 : i % sz k = (i - K * sz k) % sz k := by
      have := (in_at (k := k) (j := K + (i - K * sz k) / sz k) h2).2
      rw [← e] at this
      exact this
    rw [e1, e2, Nat.add_assoc]
end
end Go.Proofs.YtmmgimpokpgnaaaGreatDoor.Md
