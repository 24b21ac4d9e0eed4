/-
  DesAlike returns true: its walk.
-/
import Derived.Test.YtknjboflkclglaaDoorAwake03
namespace Go.Proofs.YtknjboflkclglaaDoor.Des
open Go.ChangeShapes Go.WideShapes Go.ChangeAt Go.RowKit Mem
/-- append of a byte slice, wherever it lies, at one operation -/
theorem wp_app_src {P : Program} {o : Oper} {a : Act} {w : World} {K : Act → World → Prop} {Q : Exit → Act → World → Prop} (p q : Operand) (t : TypeId) (ho : o.op = .call { callee := .builtin .append, args := #[p, q], argTypes := #[t, t] }) (base : Nat) (e : TypeId) (z : Value) (ht : P.underlying t = some (.slice e))
    (hinfo : (P.info? e).map (fun i => (i.zero, i.size, i.bytes)) = some (some z, 1, 1)) (hz : z.cells.size = 1) (v : Value) (n : Nat) (f : Nat → Nat) (hp : a.eval p = v) (hown : Own w base e 1 v n f)
    (A : Option Addr) (m c : Nat) (g : Nat → Nat) (B : Nat) (hR : Reads w B A m g) (hm : 0 < m) (hq : a.eval q = .slice A m c) (hn : n + m ≤ 1000000) (hbase : base ≤ w.heap.size)
    (h : ∀ v' w', Own w' base e 1 v' (n + m) (cat n f g) → Below base w w' → K (a.put o.dst v') w') : o.wp P a w K Q := by
  obtain ⟨ad, rfl, _, hc⟩ := hR hm
  obtain ⟨i, hi, hz0, hz1, hz2⟩ := info_parts hinfo
  refine wp_append_own w p q t ho base e i z 1 1 ht hi hz0 hz1 hz2 hz (by omega) v n _ hp hown ad m c ((List.range m).map (b8 g)) hq (by simp) ?_ ?_ ?_ ?_ hbase ?_
  · intro j u hu
    by_cases hj : j < m
    · simp [hj] at hu
      subst hu
      exact hc j hj
    · rw [List.getElem?_eq_none (by simp; omega)] at hu; cases hu
  · intro u hu
    simp only [List.mem_map] at hu
    obtain ⟨i, _, rfl⟩ := hu
    rfl
  · unfold maxLen; omega
  · omega
  · intro v' w' h1 h2 _
    rw [cat_list, ← Nat.mul_one m, ← Nat.add_mul, Nat.mul_one m, Nat.mul_one n] at h1
    refine h v' w' h1 ?_
    refine (Below.refl base w).grown h2 hbase ?_
    intro k hk
    exact (World.ownsRow.lt hown k hk).1
def lowX (k : Nat → Nat) (low : Nat) : Nat → Nat := fun i => k i ^^^ (low / 2 ^ i % 2)
def notX (k : Nat → Nat) : Nat → Nat := fun i => cp 8 (k i)
theorem lowX_by {k : Nat → Nat} (hk : By8 k) (low : Nat) : By8 (lowX k low) := fun i hi => Nat.xor_lt_two_pow (n := 8) (hk i hi) (by omega)
theorem notX_by {k : Nat → Nat} (hk : By8 k) : By8 (notX k) := fun i hi => cp_lt (hk i hi)
theorem lowX_half {k : Nat → Nat} (low i : Nat) : lowX k low i / 2 = k i / 2 := by
  unfold lowX
  have h : ∀ x : Nat, x / 2 = x >>> 1 := fun x => by rw [Nat.shiftRight_eq_div_pow]
  rw [h, h, Nat.shiftRight_xor_distrib, ← h (low / 2 ^ i % 2), show low / 2 ^ i % 2 / 2 = 0 by omega, Nat.xor_zero]
theorem low_int (x low n : Nat) (hx : x < 256) (hlow : low < 256) : bits .xor .u8 (x : Int) (bits .and .u8 ((low : Int) / 2 ^ n) 1) = ((x ^^^ (low / 2 ^ n % 2) : Nat) : Int) := by
  have e : ((low : Int) / 2 ^ n) = ((low / 2 ^ n : Nat) : Int) := by simp
  have h1 : low / 2 ^ n < 256 := Nat.lt_of_le_of_lt (Nat.div_le_self _ _) hlow
  have := u8_and_nat (low / 2 ^ n) 1 h1 (by omega)
  rw [Nat.and_one_is_mod] at this
  rw [e, show (1 : Int) = ((1 : Nat) : Int) from rfl, this, u8_xor_nat _ _ hx (by omega)]
theorem not_int (x : Nat) (hx : x < 256) : bits .xor .u8 IntKind.u8.max (x : Int) = ((cp 8 x : Nat) : Int) := by
  have := u8_xor_nat 255 x (by omega) hx
  rw [Nat.xor_comm] at this
  exact this
/-- the five blocks: key, block, x, flip, not -/
def A5 (w0 wr : World) (hs g1 g2 g3 g4 n : Nat) (k b : Nat → Nat) (low : Nat) : Prop :=
  ∃ m1 m2 m3 : Nat → Nat, Hid (∀ j, m1 j = if j < n then lowX k low j else k j) ∧ Hid (∀ j, m2 j = if j < n then notX k j else k j) ∧ Hid (∀ j, m3 j = if j < n then notX b j else b j) ∧
    Blk wr hs 34 (row 8 (b8 k)) ∧ Blk wr g1 34 (row 8 (b8 b)) ∧ Blk wr g2 34 (row 8 (b8 m1)) ∧ Blk wr g3 34 (row 8 (b8 m2)) ∧ Blk wr g4 34 (row 8 (b8 m3)) ∧ Below hs w0 wr
def P5 (w0 wr : World) (hs g1 g2 g3 g4 : Nat) (k b : Nat → Nat) (low : Nat) : Prop :=
  Blk wr hs 34 (row 8 (b8 k)) ∧ Blk wr g1 34 (row 8 (b8 b)) ∧ Blk wr g2 34 (row 8 (b8 (lowX k low))) ∧ Blk wr g3 34 (row 8 (b8 (notX k))) ∧ Blk wr g4 34 (row 8 (b8 (notX b))) ∧ Below hs w0 wr
section
variable {w0 wr w' : World} {hs g1 g2 g3 g4 : Nat} {k b : Nat → Nat} {low : Nat}
theorem P5.key (h : P5 w0 wr hs g1 g2 g3 g4 k b low) : Blk wr hs 34 (row 8 (b8 k)) := h.1
theorem P5.blk (h : P5 w0 wr hs g1 g2 g3 g4 k b low) : Blk wr g1 34 (row 8 (b8 b)) := h.2.1
theorem P5.xx (h : P5 w0 wr hs g1 g2 g3 g4 k b low) : Blk wr g2 34 (row 8 (b8 (lowX k low))) := h.2.2.1
theorem P5.flip (h : P5 w0 wr hs g1 g2 g3 g4 k b low) : Blk wr g3 34 (row 8 (b8 (notX k))) := h.2.2.2.1
theorem P5.nott (h : P5 w0 wr hs g1 g2 g3 g4 k b low) : Blk wr g4 34 (row 8 (b8 (notX b))) := h.2.2.2.2.1
theorem P5.bel (h : P5 w0 wr hs g1 g2 g3 g4 k b low) : Below hs w0 wr := h.2.2.2.2.2
theorem P5.below (h : P5 w0 wr hs g1 g2 g3 g4 k b low) (hb : Below wr.heap.size wr w') : P5 w0 w' hs g1 g2 g3 g4 k b low :=
  ⟨h.key.below hb h.key.lt, h.blk.below hb h.blk.lt, h.xx.below hb h.xx.lt, h.flip.below hb h.flip.lt, h.nott.below hb h.nott.lt, h.bel.trans (hb.mono (Nat.le_of_lt h.key.lt))⟩
theorem P5.alloc (h : P5 w0 wr hs g1 g2 g3 g4 k b low) (o : Obj) : P5 w0 (wr.alloc o) hs g1 g2 g3 g4 k b low := h.below ((Below.refl _ _).alloc (Nat.le_refl _) o)
end
theorem cp_cp (x : Nat) : cp 8 (cp 8 x) = x := by unfold cp; rw [Nat.xor_assoc, Nat.xor_self, Nat.xor_zero]
theorem three_all (k : Nat → Nat) (i : Nat) (hi : i < 24) : (cat 16 (cat 8 (cat 0 (fun _ => 0) k) k) k) i = k (i % 8) := by
  unfold cat
  by_cases h : i < 16
  · rw [if_pos h]
    by_cases h2 : i < 8
    · rw [if_pos h2, if_neg (by omega), show i - 0 = i % 8 by omega]
    · rw [if_neg h2, show i - 8 = i % 8 by omega]
  · rw [if_neg h, show i - 16 = i % 8 by omega]
theorem three_same (k : Nat → Nat) : ∀ j, j < 3 → ∀ i, i < 8 → tkey 24 (cat 16 (cat 8 (cat 0 (fun _ => 0) k) k) k) j i = k i := by
  intro j hj i hi
  unfold tkey
  rw [if_neg (by omega), if_neg (by omega), three_all k _ (by omega), show (8 * j + i) % 8 = i by omega]
set_option linter.unusedSimpArgs false in
set_option maxRecDepth 100000 in
set_option maxHeartbeats 4000000 in
theorem desAlike_walk (k b : Nat → Nat) (low : Nat) (w : World) (hg : As.Laid w) (hk : ∀ i, i < 8 → k i < 256) (hb : ∀ i, i < 8 → b i < 256) (hlow : low < 256) :
    Calls Tryd.prog 8 #[.agg (row 8 (b8 k)), .agg (row 8 (b8 b)), .int .u8 low] w fun e w' => e = .returned (.bool true) ∧ Below w.heap.size w w' := by
  have Hk : Hid (By8 k) := hid hk
  have Hb : Hid (By8 b) := hid hb
  have Hg := hid hg
  clear hk hb hg
  go_enter Tryd.func8, Tryd.ntmps8
  go_wp2_with (first
    | (with_reducible refine wpl_load rfl 34 _ rfl _ rfl 34 _ (Blk.alloc (Blk.fresh _ _ _) _) 8 5 Tryd.underlying34 (i8a' _) ?_)
    | (with_reducible refine wpl_load rfl 34 _ rfl _ rfl 34 _ (Blk.alloc (Blk.alloc (Blk.fresh _ _ _) _) _) 8 5 Tryd.underlying34 (i8a' _) ?_)
    | (with_reducible refine wpl_load rfl 34 _ rfl _ rfl 34 _ (Blk.alloc (Blk.alloc (Blk.alloc (Blk.fresh _ _ _) _) _) _) 8 5 Tryd.underlying34 (i8a' _) ?_)
    | (with_reducible refine wpl_load rfl 34 _ rfl _ rfl 34 _ (Blk.alloc (Blk.alloc (two_new w _ _ _) _) _) 8 5 Tryd.underlying34 (i8a' _) ?_)
    | (with_reducible refine wpl_alloc rfl 34 rfl _ z8 ?_)
    | (with_reducible refine wpl_store_new rfl 34 _ _ rfl _ _ 8 _ rfl rfl 34 i8a (row_size _ _) ?_))
  have hA : A5 w (((((w.alloc (.cells (row 8 (b8 k)) 34)).alloc (.cells (row 8 (b8 b)) 34)).alloc (.cells (row 8 (b8 k)) 34)).alloc (.cells (row 8 (b8 k)) 34)).alloc (.cells (row 8 (b8 b)) 34)) w.heap.size (w.heap.size + 1) (w.heap.size + 1 + 1) (w.heap.size + 1 + 1 + 1) (w.heap.size + 1 + 1 + 1 + 1) 0 k b low := by
    refine ⟨k, k, b, hid (by simp), hid (by simp), hid (by simp), ((((Blk.fresh _ _ _).alloc _).alloc _).alloc _).alloc _, (((two_new _ _ _ _).alloc _).alloc _).alloc _, ?_, ?_, ?_, ?_⟩
    · have := ((Blk.fresh ((w.alloc (.cells (row 8 (b8 k)) 34)).alloc (.cells (row 8 (b8 b)) 34)) 34 (row 8 (b8 k))).alloc (.cells (row 8 (b8 k)) 34)).alloc (.cells (row 8 (b8 b)) 34)
      simpa using this
    · have := (Blk.fresh (((w.alloc (.cells (row 8 (b8 k)) 34)).alloc (.cells (row 8 (b8 b)) 34)).alloc (.cells (row 8 (b8 k)) 34)) 34 (row 8 (b8 k))).alloc (.cells (row 8 (b8 b)) 34)
      simpa using this
    · have := Blk.fresh ((((w.alloc (.cells (row 8 (b8 k)) 34)).alloc (.cells (row 8 (b8 b)) 34)).alloc (.cells (row 8 (b8 k)) 34)).alloc (.cells (row 8 (b8 k)) 34)) 34 (row 8 (b8 b))
      simpa using this
    · exact (((((Below.refl _ _).alloc (Nat.le_refl _) _).alloc (by simp) _).alloc (by simp; omega) _).alloc (by simp; omega) _).alloc (by simp; omega) _
  generalize ((((w.alloc (.cells (row 8 (b8 k)) 34)).alloc (.cells (row 8 (b8 b)) 34)).alloc (.cells (row 8 (b8 k)) 34)).alloc (.cells (row 8 (b8 k)) 34)).alloc (.cells (row 8 (b8 b)) 34) = w2 at *
  obtain ⟨hn1, hn2, hn3, hn4⟩ : w.heap.size < w.heap.size + 1 ∧ w.heap.size + 1 < w.heap.size + 1 + 1 ∧ w.heap.size + 1 + 1 < w.heap.size + 1 + 1 + 1 ∧ w.heap.size + 1 + 1 + 1 < w.heap.size + 1 + 1 + 1 + 1 := by omega
  generalize w.heap.size + 1 + 1 + 1 + 1 = g4 at *
  generalize w.heap.size + 1 + 1 + 1 = g3 at *
  generalize w.heap.size + 1 + 1 = g2 at *
  generalize w.heap.size + 1 = g1 at *
  go_loopw [10] (fun i wr => ∃ n : Nat, n ≤ 8 ∧ i = .int .i64 n ∧ A5 w wr w.heap.size g1 g2 g3 g4 n k b low) (fun i _ => 8 - (intOf i).toNat)
  case atStart => exact ⟨0, by omega, rfl, hA⟩
  case round =>
    clear hA
    obtain ⟨n, hn, rfl, m1, m2, m3, H1, H2, H3, c1, c2, c3, c4, c5, hB⟩ := hrel
    by_cases hlt : n < 8
    · have hkn := Hk.out n hlt
      have hbn := Hb.out n hlt
      have v1 : bits .xor .u8 ((k n : Nat) : Int) (bits .and .u8 ((low : Int) / 2 ^ n) 1) = ((lowX k low n : Nat) : Int) := low_int (k n) low n hkn hlow
      have v2 : bits .xor .u8 IntKind.u8.max ((k n : Nat) : Int) = ((notX k n : Nat) : Int) := not_int (k n) hkn
      have v3 : bits .xor .u8 IntKind.u8.max ((b n : Nat) : Int) = ((notX b n : Nat) : Int) := not_int (b n) hbn
      have q3 := c3.val n hlt
      rw [show m1 n = k n by rw [H1.out n, if_neg (by omega)]] at q3
      have d1 := c1.other ⟨g2, n, none⟩ (.int .u8 ((lowX k low n : Nat) : Int)) (by simp; omega)
      have d4 := c4.other ⟨g2, n, none⟩ (.int .u8 ((lowX k low n : Nat) : Int)) (by simp; omega)
      have d2 := (c2.other ⟨g2, n, none⟩ (.int .u8 ((lowX k low n : Nat) : Int)) (by simp; omega)).other ⟨g3, n, none⟩ (.int .u8 ((notX k n : Nat) : Int)) (by simp; omega)
      have d5 := (c5.other ⟨g2, n, none⟩ (.int .u8 ((lowX k low n : Nat) : Int)) (by simp; omega)).other ⟨g3, n, none⟩ (.int .u8 ((notX k n : Nat) : Int)) (by simp; omega)
      have R2 : Hid (bits .xor .u8 (if IntKind.u8.signed = true then -1 else IntKind.u8.max) ((k n : Nat) : Int) = ((notX k n : Nat) : Int)) := hid v2
      have R3 : Hid (bits .xor .u8 (if IntKind.u8.signed = true then -1 else IntKind.u8.max) ((b n : Nat) : Int) = ((notX b n : Nat) : Int)) := hid v3
      have Q1 := hid (d1.val n hlt)
      have Q3 := hid q3
      have d2r : Hid (Blk ((wr.setCell ⟨g2, n, none⟩ (.int .u8 ((lowX k low n : Nat) : Int))).setCell ⟨g3, n, none⟩ (.int .u8 (bits .xor .u8 (if IntKind.u8.signed = true then -1 else IntKind.u8.max) ((k n : Nat) : Int)))) g1 34 (row 8 (b8 b))) := hid (by rw [R2.out]; exact d2)
      have d5r : Hid (Blk ((wr.setCell ⟨g2, n, none⟩ (.int .u8 ((lowX k low n : Nat) : Int))).setCell ⟨g3, n, none⟩ (.int .u8 (bits .xor .u8 (if IntKind.u8.signed = true then -1 else IntKind.u8.max) ((k n : Nat) : Int)))) g4 34 (row 8 (b8 m3))) := hid (by rw [R2.out]; exact d5)
      clear q3 v2 v3
      go_wp2_with (first
        | (with_reducible refine wpl_at rfl 34 _ _ rfl _ rfl .i64 _ rfl n rfl 8 5 Tryd.underlying34 hlt i8 ?_)
        | (with_reducible refine wpl_ld rfl 5 _ rfl _ rfl .u8 Tryd.underlying5 _ Q3.out ?_)
        | (with_reducible refine wpl_ld rfl 5 _ rfl _ rfl .u8 Tryd.underlying5 _ Q1.out ?_)
        | (with_reducible refine wpl_ld rfl 5 _ rfl _ rfl .u8 Tryd.underlying5 _ (d2r.out.val n hlt) ?_)
        | (with_reducible refine wpl_st rfl 5 _ _ rfl _ rfl .u8 _ rfl i8 _ (c3.val n hlt) (c3.free n) ?_)
        | (with_reducible refine wpl_st rfl 5 _ _ rfl _ rfl .u8 _ rfl i8 _ (d4.val n hlt) (d4.free n) ?_)
        | (with_reducible refine wpl_st rfl 5 _ _ rfl _ rfl .u8 _ rfl i8 _ (d5r.out.val n hlt) (d5r.out.free n) ?_))
      go_round
      case rel =>
        rw [R2.out, R3.out]
        refine ⟨n + 1, by omega, val_int (by omega), upd m1 n (lowX k low n), upd m2 n (notX k n), upd m3 n (notX b n), hid (fill_step (F := lowX k low) H1.out), hid (fill_step (F := notX k) H2.out), hid (fill_step (F := notX b) H3.out), ?_, ?_, ?_, ?_, ?_, ?_⟩
        · exact (d1.other _ _ (by simp; omega)).other _ _ (by simp; omega)
        · exact d2.other _ _ (by simp; omega)
        · exact ((c3.put n _).other _ _ (by simp; omega)).other _ _ (by simp; omega)
        · exact (d4.put n _).other _ _ (by simp; omega)
        · exact d5.put n _
        · exact ((hB.setCell (by simp; omega) _).setCell (by simp; omega) _).setCell (by simp; omega) _
      case measure => simp [intOf]; omega
    · have Hx : ∀ i, i < 8 → m1 i = lowX k low i := fill_end H1.out (by omega)
      have Hf : ∀ i, i < 8 → m2 i = notX k i := fill_end H2.out (by omega)
      have Hn : ∀ i, i < 8 → m3 i = notX b i := fill_end H3.out (by omega)
      rw [row_b8_ext Hx] at c3
      rw [row_b8_ext Hf] at c4
      rw [row_b8_ext Hn] at c5
      have hP : P5 w wr w.heap.size g1 g2 g3 g4 k b low := ⟨c1, c2, c3, c4, c5, hB⟩
      clear Hx Hf Hn H1 H2 H3 c1 c2 c3 c4 c5 hB
      go_wp2_with fail
      refine wp_region_held_drew (S := fun W => Below wr.heap.size wr W) (by kernel_rfl) (Below.refl _ _).drew (fun hS0 => ?_)
      refine wpAnyH_take (i := 0) (v := .slice none 0 0) rfl (by kernel_rfl) (by kernel_rfl) (by kernel_rfl) (fun _ _ _ h => h) (Or.inl ⟨rfl, fun _ _ => exec_move _ rfl _ rfl⟩) hS0 ?_
      (try simp only [Act.put, List.getElem_toArray, List.getElem_cons_zero, List.getElem_cons_succ, List.setIfInBounds_toArray, List.set_cons_zero, List.set_cons_succ])
      refine wpAnyH_take (i := 1) (v := .slice (some ⟨w.heap.size, 0, none⟩) 8 8) rfl (by kernel_rfl) (by kernel_rfl) (by kernel_rfl) (fun _ _ _ h => h) (Or.inl ⟨rfl, fun W _ => by go_simp⟩) hS0 ?_
      (try simp only [Act.put, List.getElem_toArray, List.getElem_cons_zero, List.getElem_cons_succ, List.setIfInBounds_toArray, List.set_cons_zero, List.set_cons_succ])
      refine wpAnyH_take (i := 3) (v := .slice (some ⟨w.heap.size, 0, none⟩) 8 8) rfl (by kernel_rfl) (by kernel_rfl) (by kernel_rfl) (fun _ _ _ h => h) (Or.inl ⟨rfl, fun W _ => by go_simp⟩) hS0 ?_
      (try simp only [Act.put, List.getElem_toArray, List.getElem_cons_zero, List.getElem_cons_succ, List.setIfInBounds_toArray, List.set_cons_zero, List.set_cons_succ])
      refine wpAnyH_take (i := 5) (v := .slice (some ⟨w.heap.size, 0, none⟩) 8 8) rfl (by kernel_rfl) (by kernel_rfl) (by kernel_rfl) (fun _ _ _ h => h) (Or.inl ⟨rfl, fun W _ => by go_simp⟩) hS0 ?_
      (try simp only [Act.put, List.getElem_toArray, List.getElem_cons_zero, List.getElem_cons_succ, List.setIfInBounds_toArray, List.set_cons_zero, List.set_cons_succ])
      refine wpAnyH_ready (rs := [2]) (by kernel_rfl) (by simp) (AllReadyH.cons rfl (fun K hK => ?_) AllReadyH.nil)
      (try simp only [Act.put, List.getElem_toArray, List.getElem_cons_zero, List.getElem_cons_succ, List.setIfInBounds_toArray, List.set_cons_zero, List.set_cons_succ])
      refine Eq.mpr (if_pos (by rfl)) ?_
      refine wp_app_src _ _ 22 rfl wr.heap.size 5 (.int .u8 0) Tryd.underlying22 info8c rfl (.slice none 0 0) 0 (fun _ => 0) rfl (Own.nil _ _ _ _ _) (some ⟨w.heap.size, 0, none⟩) 8 8 k _ (Blk.reads (hP.key.below hS0 hP.key.lt)) (by omega) rfl (by omega) hS0.size ?_
      intro v1 wq1 ho1 hBq1
      (try simp only [Act.put, List.getElem_toArray, List.getElem_cons_zero, List.getElem_cons_succ, List.setIfInBounds_toArray, List.set_cons_zero, List.set_cons_succ])
      refine hK.out _ _ (hS0.trans hBq1) (fun hS1 => ?_)
      (try simp only [Act.put, List.getElem_toArray, List.getElem_cons_zero, List.getElem_cons_succ, List.setIfInBounds_toArray, List.set_cons_zero, List.set_cons_succ])
      clear hK K
      refine wpAnyH_ready (rs := [4]) (by kernel_rfl) (by simp) (AllReadyH.cons rfl (fun K hK => ?_) AllReadyH.nil)
      (try simp only [Act.put, List.getElem_toArray, List.getElem_cons_zero, List.getElem_cons_succ, List.setIfInBounds_toArray, List.set_cons_zero, List.set_cons_succ])
      refine Eq.mpr (if_pos (by rfl)) ?_
      refine wp_app_src _ _ 22 rfl wr.heap.size 5 (.int .u8 0) Tryd.underlying22 info8c rfl v1 8 (cat 0 (fun _ => 0) k) rfl ho1 (some ⟨w.heap.size, 0, none⟩) 8 8 k _ (Blk.reads (hP.key.below hS1 hP.key.lt)) (by omega) rfl (by omega) hS1.size ?_
      intro v2 wq2 ho2 hBq2
      (try simp only [Act.put, List.getElem_toArray, List.getElem_cons_zero, List.getElem_cons_succ, List.setIfInBounds_toArray, List.set_cons_zero, List.set_cons_succ])
      refine hK.out _ _ (hS1.trans hBq2) (fun hS2 => ?_)
      (try simp only [Act.put, List.getElem_toArray, List.getElem_cons_zero, List.getElem_cons_succ, List.setIfInBounds_toArray, List.set_cons_zero, List.set_cons_succ])
      clear hK K
      refine wpAnyH_ready (rs := [6]) (by kernel_rfl) (by simp) (AllReadyH.cons rfl (fun K hK => ?_) AllReadyH.nil)
      (try simp only [Act.put, List.getElem_toArray, List.getElem_cons_zero, List.getElem_cons_succ, List.setIfInBounds_toArray, List.set_cons_zero, List.set_cons_succ])
      refine Eq.mpr (if_pos (by rfl)) ?_
      refine wp_app_src _ _ 22 rfl wr.heap.size 5 (.int .u8 0) Tryd.underlying22 info8c rfl v2 16 (cat 8 (cat 0 (fun _ => 0) k) k) rfl ho2 (some ⟨w.heap.size, 0, none⟩) 8 8 k _ (Blk.reads (hP.key.below hS2 hP.key.lt)) (by omega) rfl (by omega) hS2.size ?_
      intro v3 wq3 ho3 hBq3
      (try simp only [Act.put, List.getElem_toArray, List.getElem_cons_zero, List.getElem_cons_succ, List.setIfInBounds_toArray, List.set_cons_zero, List.set_cons_succ])
      refine hK.out _ _ (hS2.trans hBq3) (fun hS3 => ?_)
      (try simp only [Act.put, List.getElem_toArray, List.getElem_cons_zero, List.getElem_cons_succ, List.setIfInBounds_toArray, List.set_cons_zero, List.set_cons_succ])
      clear hK K
      refine wpAnyH_take (i := 7) (v := v3) rfl (by kernel_rfl) (by kernel_rfl) (by kernel_rfl) (fun _ _ _ h => h) (Or.inl ⟨rfl, fun _ _ => exec_assign _ rfl _ rfl⟩) hS3 ?_
      (try simp only [Act.put, List.getElem_toArray, List.getElem_cons_zero, List.getElem_cons_succ, List.setIfInBounds_toArray, List.set_cons_zero, List.set_cons_succ])
      refine wpAnyH_done (by kernel_rfl) ?_ _
      have hS3w := hS3
      clear hS0 hS1 hS2 hS3 ho1 ho2 hBq1 hBq2 hBq3
      obtain ⟨A3, cap3, rfl, hcap⟩ := ho3.slice
      have hR3 := ho3.reads
      have HT : Hid (tdes 24 (cat 16 (cat 8 (cat 0 (fun _ => 0) k) k) k) b false = des k b false) := hid (tdes_one (three_same k) Hb.out false)
      have HF3 : Hid (∀ i, i < 24 → (cat 16 (cat 8 (cat 0 (fun _ => 0) k) k) k) i < 256) := hid (fun i hi => by
        have := three_all k i hi; rw [this]; exact Hk.out _ (by omega))
      generalize hFe : cat 16 (cat 8 (cat 0 (fun _ => 0) k) k) k = F3 at *
      clear hFe ho3
      have hP2 := hP.below hS3w
      clear hP hS3w
      go_wp2_with (first
        | (with_reducible refine wpl_load rfl 34 _ rfl _ rfl 34 _ hP2.key 8 5 Tryd.underlying34 (i8a' _) ?_)
        | (with_reducible refine wpl_load rfl 34 _ rfl _ rfl 34 _ hP2.blk 8 5 Tryd.underlying34 (i8a' _) ?_))
      refine (block_any k b false Hk.out Hb.out _).mono ?_
      rintro e w5 ⟨rfl, hB5⟩
      have hP5 := (hP2.below hB5).alloc (.cells (row 8 (b8 (des k b false))) 34)
      have hR5 := ((hR3.below hB5).more hB5.size).below ((Below.refl _ w5).alloc (Nat.le_refl _) (.cells (row 8 (b8 (des k b false))) 34))
      have hR6 : Reads (w5.alloc (.cells (row 8 (b8 (des k b false))) 34)) (w5.alloc (.cells (row 8 (b8 (des k b false))) 34)).heap.size A3 24 F3 := hR5.more (by simp)
      have hc5 := Blk.fresh w5 34 (row 8 (b8 (des k b false)))
      clear hP2 hR3 hB5
      have HD1 : Hid (∀ i, i < 8 → notX (des (notX k) (notX b) false) i = des k b false i) := hid (fun i hi => by
        show cp 8 (des (fun i => cp 8 (k i)) (fun i => cp 8 (b i)) false i) = _
        rw [des_cp Hk.out Hb.out i hi, cp_cp])
      have HD2 : Hid (∀ i, i < 8 → des (lowX k low) b false i = des k b false i) := hid (fun i _ => by rw [des_low (lowX_by Hk.out low) Hk.out (fun i _ => lowX_half low i)])
      generalize des k b false = cD at *
      go_wp2_with (first
        | (with_reducible refine wpl_alloc rfl 34 rfl _ z8 ?_)
        | (with_reducible refine wpl_store_new rfl 34 _ _ rfl _ _ 8 _ rfl rfl 34 i8a (row_size _ _) ?_)
        | (with_reducible refine wpl_load rfl 34 _ rfl _ rfl 34 _ hP5.blk 8 5 Tryd.underlying34 (i8a' _) ?_))
      generalize w5.alloc (.cells (row 8 (b8 cD)) 34) = w6 at *
      generalize w5.heap.size = gc at *
      refine (triple_any A3 24 cap3 (.inr (.inr rfl)) hcap F3 b false _ HF3.out Hb.out hR6).mono ?_
      rintro e w7 ⟨rfl, hB7⟩
      rw [HT.out]
      have hP7 := (hP5.below hB7).alloc (.cells (row 8 (b8 cD)) 34)
      have hc7 := (hc5.below hB7 hc5.lt).alloc (.cells (row 8 (b8 cD)) 34)
      have hd7 := Blk.fresh w7 34 (row 8 (b8 cD))
      clear hP5 hR5 hR6 hc5 hB7
      go_wp2_with (first
        | (with_reducible refine wpl_alloc rfl 34 rfl _ z8 ?_)
        | (with_reducible refine wpl_store_new rfl 34 _ _ rfl _ _ 8 _ rfl rfl 34 i8a (row_size _ _) ?_)
        | (with_reducible refine wpl_load rfl 34 _ rfl _ rfl 34 _ hP7.flip 8 5 Tryd.underlying34 (i8a' _) ?_)
        | (with_reducible refine wpl_load rfl 34 _ rfl _ rfl 34 _ hP7.nott 8 5 Tryd.underlying34 (i8a' _) ?_))
      generalize w7.alloc (.cells (row 8 (b8 cD)) 34) = w8 at *
      generalize w7.heap.size = gd at *
      refine (block_any (notX k) (notX b) false (notX_by Hk.out) (notX_by Hb.out) _).mono ?_
      rintro e w9 ⟨rfl, hB9⟩
      have hP9 := (hP7.below hB9).alloc (.cells (row 8 (b8 (des (notX k) (notX b) false))) 34)
      have hc9 := (hc7.below hB9 hc7.lt).alloc (.cells (row 8 (b8 (des (notX k) (notX b) false))) 34)
      have hd9 := (hd7.below hB9 hd7.lt).alloc (.cells (row 8 (b8 (des (notX k) (notX b) false))) 34)
      have he9 := Blk.fresh w9 34 (row 8 (b8 (des (notX k) (notX b) false)))
      have hge : gc < w9.heap.size ∧ gd < w9.heap.size ∧ w.heap.size < w9.heap.size ∧ g1 < w9.heap.size ∧ g2 < w9.heap.size := ⟨(hc7.below hB9 hc7.lt).lt, (hd7.below hB9 hd7.lt).lt, (hP7.below hB9).key.lt, (hP7.below hB9).blk.lt, (hP7.below hB9).xx.lt⟩
      clear hP7 hc7 hd7 hB9
      have HG : Hid (By8 (des (notX k) (notX b) false)) := hid (des_by _ _ _)
      generalize des (notX k) (notX b) false = G at *
      go_wp2_with (first
        | (with_reducible refine wpl_alloc rfl 34 rfl _ z8 ?_)
        | (with_reducible refine wpl_store_new rfl 34 _ _ rfl _ _ 8 _ rfl rfl 34 i8a (row_size _ _) ?_))
      generalize w9.alloc (.cells (row 8 (b8 G)) 34) = wA at *
      generalize w9.heap.size = ge at *
      have hbb := hP9.blk
      have hxx := hP9.xx
      have hBB := hP9.bel
      clear hP9
      generalize Value.bool (decide ((n : Int) < 8)) = vb at *
      generalize Value.int .i64 (n : Int) = vn at *
      go_loopw [16] (fun i wr2 => ∃ (p : Nat) (m : Nat → Nat), p ≤ 8 ∧ i = .int .i64 p ∧ Hid (∀ j, m j = if j < p then notX G j else G j) ∧ Blk wr2 g1 34 (row 8 (b8 b)) ∧ Blk wr2 g2 34 (row 8 (b8 (lowX k low))) ∧ Blk wr2 gc 34 (row 8 (b8 cD)) ∧ Blk wr2 gd 34 (row 8 (b8 cD)) ∧ Blk wr2 ge 34 (row 8 (b8 m)) ∧ Below w.heap.size w wr2) (fun i _ => 8 - (intOf i).toNat)
      case atStart => exact ⟨0, G, by omega, rfl, hid (by simp), hbb, hxx, hc9, hd9, he9, hBB⟩
      case round =>
        clear hbb hxx hBB hc9 hd9 he9
        obtain ⟨p, m, hp, rfl, HM, hbb, hx, hc, hd, he, hB⟩ := hrel
        rename World => wr2
        by_cases hlt : p < 8
        · have hGp := HG.out p hlt
          have q := he.val p hlt
          rw [show m p = G p by rw [HM.out p, if_neg (by omega)]] at q
          have Q := hid q
          clear q
          have R2 : Hid (bits .xor .u8 (if IntKind.u8.signed = true then -1 else IntKind.u8.max) ((G p : Nat) : Int) = ((notX G p : Nat) : Int)) := hid (not_int (G p) hGp)
          go_wp2_with (first
            | (with_reducible refine wpl_at rfl 34 _ _ rfl _ rfl .i64 _ rfl p rfl 8 5 Tryd.underlying34 hlt i8 ?_)
            | (with_reducible refine wpl_ld rfl 5 _ rfl _ rfl .u8 Tryd.underlying5 _ Q.out ?_)
            | (with_reducible refine wpl_st rfl 5 _ _ rfl _ rfl .u8 _ rfl i8 _ (he.val p hlt) (he.free p) ?_))
          go_round
          case rel =>
            rw [R2.out]
            exact ⟨p + 1, upd m p (notX G p), by omega, val_int (by omega), hid (fill_step (F := notX G) HM.out), hbb.other _ _ (by simp; omega), hx.other _ _ (by simp; omega), hc.other _ _ (by simp; omega), hd.other _ _ (by simp; omega), he.put p _, hB.setCell (by simp; omega) _⟩
          case measure => simp [intOf]; omega
        have Hm : Hid (∀ i, i < 8 → m i = notX G i) := hid (fill_end HM.out (by omega))
        have E1 : Hid (eqB 8 cD cD = true) := hid (eqB_true fun _ _ => rfl)
        have E2 : Hid (eqB 8 (des (lowX k low) b false) cD = true) := hid (eqB_true HD2.out)
        have E3 : Hid (eqB 8 m cD = true) := hid (eqB_true fun i hi => (Hm.out i hi).trans (HD1.out i hi))
        go_wp2_with fail
        refine wp_region_held_drew (S := fun W => Below wr2.heap.size wr2 W) (by kernel_rfl) (Below.refl _ _).drew (fun hS0 => ?_)
        refine wpAnyH_ready (rs := [0]) (by kernel_rfl) (by simp) (AllReadyH.cons rfl (fun K hK => ?_) AllReadyH.nil)
        (try simp only [Act.put, List.getElem_toArray, List.getElem_cons_zero, List.getElem_cons_succ, List.setIfInBounds_toArray, List.set_cons_zero, List.set_cons_succ])
        refine Eq.mpr (if_pos (by rfl)) ?_
        go_simp
        refine (awake_any _ (Hg.out.below (hB.trans (hS0.mono hB.size)))).mono ?_
        rintro e wx ⟨rfl, hBx⟩
        refine hK.out _ _ (hS0.trans (hBx.mono hS0.size)) (fun hS1 => ?_)
        (try simp only [Act.put, List.getElem_toArray, List.getElem_cons_zero, List.getElem_cons_succ, List.setIfInBounds_toArray, List.set_cons_zero, List.set_cons_succ])
        clear hK K
        refine wpAnyH_take (i := 1) (v := .bool true) rfl (by kernel_rfl) (by kernel_rfl) (by kernel_rfl) (fun _ _ _ h => h) (Or.inl ⟨rfl, fun _ _ => exec_move _ rfl _ rfl⟩) hS1 ?_
        (try simp only [Act.put, List.getElem_toArray, List.getElem_cons_zero, List.getElem_cons_succ, List.setIfInBounds_toArray, List.set_cons_zero, List.set_cons_succ])
        refine wpAnyH_take (i := 2) (v := .nilIface) rfl (by kernel_rfl) (by kernel_rfl) (by kernel_rfl) (fun _ _ _ h => h) (Or.inl ⟨rfl, fun _ _ => exec_move _ rfl _ rfl⟩) hS1 ?_
        (try simp only [Act.put, List.getElem_toArray, List.getElem_cons_zero, List.getElem_cons_succ, List.setIfInBounds_toArray, List.set_cons_zero, List.set_cons_succ])
        refine wpAnyH_take (i := 3) (v := .bool true) rfl (by kernel_rfl) (by kernel_rfl) (by kernel_rfl) (fun _ _ _ h => h) (Or.inl ⟨rfl, fun W _ => by go_simp⟩) hS1 ?_
        (try simp only [Act.put, List.getElem_toArray, List.getElem_cons_zero, List.getElem_cons_succ, List.setIfInBounds_toArray, List.set_cons_zero, List.set_cons_succ])
        refine wpAnyH_take (i := 4) (v := .bool true) rfl (by kernel_rfl) (by kernel_rfl) (by kernel_rfl) (fun _ _ _ h => h) (Or.inl ⟨rfl, fun W _ => by go_simp⟩) hS1 ?_
        (try simp only [Act.put, List.getElem_toArray, List.getElem_cons_zero, List.getElem_cons_succ, List.setIfInBounds_toArray, List.set_cons_zero, List.set_cons_succ])
        refine wpAnyH_take (i := 5) (v := .bool true) rfl (by kernel_rfl) (by kernel_rfl) (by kernel_rfl) (fun _ _ _ h => h) (Or.inl ⟨rfl, fun _ _ => exec_move _ rfl _ rfl⟩) hS1 ?_
        (try simp only [Act.put, List.getElem_toArray, List.getElem_cons_zero, List.getElem_cons_succ, List.setIfInBounds_toArray, List.set_cons_zero, List.set_cons_succ])
        refine wpAnyH_take (i := 6) (v := .agg (row 8 (b8 cD))) rfl (by kernel_rfl) (by kernel_rfl) (by kernel_rfl) (fun _ _ _ h => h) (Or.inl ⟨rfl, fun W hW => exec_load 34 _ rfl _ rfl 34 8 _ (hd.below hW hd.lt) 5 Tryd.underlying34 i8a⟩) hS1 ?_
        (try simp only [Act.put, List.getElem_toArray, List.getElem_cons_zero, List.getElem_cons_succ, List.setIfInBounds_toArray, List.set_cons_zero, List.set_cons_succ])
        refine wpAnyH_take (i := 7) (v := .agg (row 8 (b8 cD))) rfl (by kernel_rfl) (by kernel_rfl) (by kernel_rfl) (fun _ _ _ h => h) (Or.inl ⟨rfl, fun W hW => exec_load 34 _ rfl _ rfl 34 8 _ (hc.below hW hc.lt) 5 Tryd.underlying34 i8a⟩) hS1 ?_
        (try simp only [Act.put, List.getElem_toArray, List.getElem_cons_zero, List.getElem_cons_succ, List.setIfInBounds_toArray, List.set_cons_zero, List.set_cons_succ])
        refine wpAnyH_take (i := 8) (v := .bool true) rfl (by kernel_rfl) (by kernel_rfl) (by kernel_rfl) (fun _ _ _ h => h) (Or.inl ⟨rfl, fun _ _ => exec_eqT 34 _ _ _ rfl 8 _ _ rfl rfl true E1.out 5 Tryd.underlying34 Tryd.underlying5 i8 eqA8⟩) hS1 ?_
        (try simp only [Act.put, List.getElem_toArray, List.getElem_cons_zero, List.getElem_cons_succ, List.setIfInBounds_toArray, List.set_cons_zero, List.set_cons_succ])
        refine wpAnyH_take (i := 9) (v := .bool true) rfl (by kernel_rfl) (by kernel_rfl) (by kernel_rfl) (fun _ _ _ h => h) (Or.inl ⟨rfl, fun W _ => by go_simp⟩) hS1 ?_
        (try simp only [Act.put, List.getElem_toArray, List.getElem_cons_zero, List.getElem_cons_succ, List.setIfInBounds_toArray, List.set_cons_zero, List.set_cons_succ])
        refine wpAnyH_take (i := 10) (v := .bool true) rfl (by kernel_rfl) (by kernel_rfl) (by kernel_rfl) (fun _ _ _ h => h) (Or.inl ⟨rfl, fun _ _ => exec_move _ rfl _ rfl⟩) hS1 ?_
        (try simp only [Act.put, List.getElem_toArray, List.getElem_cons_zero, List.getElem_cons_succ, List.setIfInBounds_toArray, List.set_cons_zero, List.set_cons_succ])
        refine wpAnyH_take (i := 11) (v := .agg (row 8 (b8 (lowX k low)))) rfl (by kernel_rfl) (by kernel_rfl) (by kernel_rfl) (fun _ _ _ h => h) (Or.inl ⟨rfl, fun W hW => exec_load 34 _ rfl _ rfl 34 8 _ (hx.below hW hx.lt) 5 Tryd.underlying34 i8a⟩) hS1 ?_
        (try simp only [Act.put, List.getElem_toArray, List.getElem_cons_zero, List.getElem_cons_succ, List.setIfInBounds_toArray, List.set_cons_zero, List.set_cons_succ])
        refine wpAnyH_take (i := 12) (v := .agg (row 8 (b8 b))) rfl (by kernel_rfl) (by kernel_rfl) (by kernel_rfl) (fun _ _ _ h => h) (Or.inl ⟨rfl, fun W hW => exec_load 34 _ rfl _ rfl 34 8 _ (hbb.below hW hbb.lt) 5 Tryd.underlying34 i8a⟩) hS1 ?_
        (try simp only [Act.put, List.getElem_toArray, List.getElem_cons_zero, List.getElem_cons_succ, List.setIfInBounds_toArray, List.set_cons_zero, List.set_cons_succ])
        refine wpAnyH_take (i := 14) (v := .agg (row 8 (b8 cD))) rfl (by kernel_rfl) (by kernel_rfl) (by kernel_rfl) (fun _ _ _ h => h) (Or.inl ⟨rfl, fun W hW => exec_load 34 _ rfl _ rfl 34 8 _ (hc.below hW hc.lt) 5 Tryd.underlying34 i8a⟩) hS1 ?_
        (try simp only [Act.put, List.getElem_toArray, List.getElem_cons_zero, List.getElem_cons_succ, List.setIfInBounds_toArray, List.set_cons_zero, List.set_cons_succ])
        refine wpAnyH_ready (rs := [13]) (by kernel_rfl) (by simp) (AllReadyH.cons rfl (fun K hK => ?_) AllReadyH.nil)
        (try simp only [Act.put, List.getElem_toArray, List.getElem_cons_zero, List.getElem_cons_succ, List.setIfInBounds_toArray, List.set_cons_zero, List.set_cons_succ])
        refine Eq.mpr (if_pos (by rfl)) ?_
        go_simp
        refine (block_any (lowX k low) b false (lowX_by Hk.out low) Hb.out _).mono ?_
        rintro e wy ⟨rfl, hBy⟩
        refine hK.out _ _ (hS1.trans (hBy.mono hS1.size)) (fun hS2 => ?_)
        (try simp only [Act.put, List.getElem_toArray, List.getElem_cons_zero, List.getElem_cons_succ, List.setIfInBounds_toArray, List.set_cons_zero, List.set_cons_succ])
        clear hK K
        refine wpAnyH_take (i := 15) (v := .bool true) rfl (by kernel_rfl) (by kernel_rfl) (by kernel_rfl) (fun _ _ _ h => h) (Or.inl ⟨rfl, fun _ _ => exec_eqT 34 _ _ _ rfl 8 _ _ rfl rfl true E2.out 5 Tryd.underlying34 Tryd.underlying5 i8 eqA8⟩) hS2 ?_
        (try simp only [Act.put, List.getElem_toArray, List.getElem_cons_zero, List.getElem_cons_succ, List.setIfInBounds_toArray, List.set_cons_zero, List.set_cons_succ])
        refine wpAnyH_take (i := 16) (v := .bool true) rfl (by kernel_rfl) (by kernel_rfl) (by kernel_rfl) (fun _ _ _ h => h) (Or.inl ⟨rfl, fun W _ => by go_simp⟩) hS2 ?_
        (try simp only [Act.put, List.getElem_toArray, List.getElem_cons_zero, List.getElem_cons_succ, List.setIfInBounds_toArray, List.set_cons_zero, List.set_cons_succ])
        refine wpAnyH_take (i := 17) (v := .bool true) rfl (by kernel_rfl) (by kernel_rfl) (by kernel_rfl) (fun _ _ _ h => h) (Or.inl ⟨rfl, fun _ _ => exec_move _ rfl _ rfl⟩) hS2 ?_
        (try simp only [Act.put, List.getElem_toArray, List.getElem_cons_zero, List.getElem_cons_succ, List.setIfInBounds_toArray, List.set_cons_zero, List.set_cons_succ])
        refine wpAnyH_take (i := 18) (v := .agg (row 8 (b8 m))) rfl (by kernel_rfl) (by kernel_rfl) (by kernel_rfl) (fun _ _ _ h => h) (Or.inl ⟨rfl, fun W hW => exec_load 34 _ rfl _ rfl 34 8 _ (he.below hW he.lt) 5 Tryd.underlying34 i8a⟩) hS2 ?_
        (try simp only [Act.put, List.getElem_toArray, List.getElem_cons_zero, List.getElem_cons_succ, List.setIfInBounds_toArray, List.set_cons_zero, List.set_cons_succ])
        refine wpAnyH_take (i := 19) (v := .agg (row 8 (b8 cD))) rfl (by kernel_rfl) (by kernel_rfl) (by kernel_rfl) (fun _ _ _ h => h) (Or.inl ⟨rfl, fun W hW => exec_load 34 _ rfl _ rfl 34 8 _ (hc.below hW hc.lt) 5 Tryd.underlying34 i8a⟩) hS2 ?_
        (try simp only [Act.put, List.getElem_toArray, List.getElem_cons_zero, List.getElem_cons_succ, List.setIfInBounds_toArray, List.set_cons_zero, List.set_cons_succ])
        refine wpAnyH_take (i := 20) (v := .bool true) rfl (by kernel_rfl) (by kernel_rfl) (by kernel_rfl) (fun _ _ _ h => h) (Or.inl ⟨rfl, fun _ _ => exec_eqT 34 _ _ _ rfl 8 _ _ rfl rfl true E3.out 5 Tryd.underlying34 Tryd.underlying5 i8 eqA8⟩) hS2 ?_
        (try simp only [Act.put, List.getElem_toArray, List.getElem_cons_zero, List.getElem_cons_succ, List.setIfInBounds_toArray, List.set_cons_zero, List.set_cons_succ])
        refine wpAnyH_take (i := 21) (v := .bool true) rfl (by kernel_rfl) (by kernel_rfl) (by kernel_rfl) (fun _ _ _ h => h) (Or.inl ⟨rfl, fun W _ => by go_simp⟩) hS2 ?_
        (try simp only [Act.put, List.getElem_toArray, List.getElem_cons_zero, List.getElem_cons_succ, List.setIfInBounds_toArray, List.set_cons_zero, List.set_cons_succ])
        refine wpAnyH_take (i := 22) (v := .bool true) rfl (by kernel_rfl) (by kernel_rfl) (by kernel_rfl) (fun _ _ _ h => h) (Or.inl ⟨rfl, fun _ _ => exec_assign _ rfl _ rfl⟩) hS2 ?_
        (try simp only [Act.put, List.getElem_toArray, List.getElem_cons_zero, List.getElem_cons_succ, List.setIfInBounds_toArray, List.set_cons_zero, List.set_cons_succ])
        refine wpAnyH_done (by kernel_rfl) ?_ _
        go_wp2_with fail
        go_ret
        exact ⟨rfl, hB.trans (hS2.mono hB.size)⟩
end Go.Proofs.YtknjboflkclglaaDoor.Des
