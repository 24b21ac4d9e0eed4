/-
 What des.Triple returns: a contract over the loaded program.
-/
import Derived.Test.YtlmnoapoofmmnaaGreatDoorDesRev3
namespace Go.Proofs.YtlmnoapoofmmnaaGreatDoor.Des
open Go.ChangeShapes Go.WideShapes Go.ChangeAt Go.RowKit Mem
theorem three_at (L : Nat) (key : Nat → Nat) (k i : Nat) (hi : i < 8) : three L key (8 * k + i) = tkey L key k i := by
 unfold three
 rw [show (8 * k + i) / 8 = k by omega, show (8 * k + i) % 8 = i by omega]
theorem swap_at (L : Nat) (key : Nat → Nat) (k i : Nat) (hk : k < 3) (hi : i < 8) : swap3 (three L key) (8 * k + i) = tkey L key (2 - k) i := by
 unfold swap3
 rcases (show k = 0 ∨ k = 1 ∨ k = 2 by omega) with rfl | rfl | rfl
 ·rw [if_pos (by omega)]; have := three_at L key 2 i hi; rw [← this]; congr 1; omega
 ·rw [if_neg (by omega), if_pos (by omega)]; exact three_at L key 1 i hi
 rw [if_neg (by omega), if_neg (by omega)]; have := three_at L key 0 i hi; rw [← this]; congr 1; omega
theorem tkey_by {L : Nat} (hL : IsTKey L) {key : Nat → Nat} (h : ∀ i, i < L → key i < 256) (k : Nat) (hk : k < 3) : By8 (tkey L key k) := by
 intro i hi
 unfold tkey
 rcases hL with rfl | rfl | rfl
 ·rw [if_pos rfl]; exact h i hi
 ·rw [if_neg (by omega), if_pos rfl]; exact h _ (by omega)
 rw [if_neg (by omega), if_neg (by omega)]; exact h _ (by omega)
theorem wpl_at8 {P : Program} {ops : Array Oper} {rest : List Oper} {o : Oper} {a : Act} {w : World} {Q : Exit → Act → World → Prop} (hgd : o.guard = none) (ty : TypeId) (x ix : Operand) (ho : o.op = .indexAddr ty x ix) (g : Nat) (hx : a.eval x = .pointer (some ⟨g, 0, none⟩)) (z : Int) (hix : a.eval ix = .int .i64 z) (k : Nat) (hz : z = (k : Int))
  (n : Nat) (e : TypeId) (hu : P.underlying ty = some (.array n e)) (hk : k < n) (s : Nat) (hs : (P.info? e).map (·.size) = some s) (off : Nat) (hoff : k * s = off)
  (h : wpList P ops Q rest (a.put o.dst (.pointer (some ⟨g, off, none⟩))) w) : wpList P ops Q (o :: rest) a w := by
 subst hz; subst hoff
 refine wpList_plain hgd fun _ hK => ?_
 have hr : (Instr.indexAt ty (.pointer (some ⟨g, 0, none⟩)) (.int .i64 (k : Int))).run P w = .ok (.pointer (some ⟨g, k * s, none⟩)) w := by
  simp [Instr.indexAt, Instr.sureAddr, asIntOf, Sem.run_bind, run_underlying hu, run_size hs, show ¬ n ≤ k by omega, add_zero_off]
 unfold Oper.wp execOp
 simp only [ho, hx, hix, hr, Sem.run_bind, Sem.run_pure, Result.andThen_ok]
 exact hK _ _ h
theorem blk_mid {w : World} {g : Nat} {t : TypeId} {F : Nat → Nat} (h : Blk w g t (row 24 (b8 F))) (k : Nat) (hk : k < 3) (off : Nat) (ho : 8 * k = off) : ∀ i, i < 8 → w.cell? ⟨g, off + i, none⟩ = some (.int .u8 ((F (8 * k + i) : Nat) : Int)) := by
 subst ho; intro i hi; exact h.val _ (by omega)
def T3 (w0 wr : World) (hs g : Nat) (b F : Nat → Nat) : Prop := Blk wr hs 134 (row 8 (b8 b)) ∧ Blk wr (hs + 1) 134 (row 8 (b8 fun _ => 0)) ∧ Blk wr g 154 (row 24 (b8 F)) ∧ hs + 1 < g ∧ Below hs w0 wr
section
variable {w0 wr w' : World} {hs g : Nat} {b F : Nat → Nat}
theorem T3.blk (h : T3 w0 wr hs g b F) : Blk wr hs 134 (row 8 (b8 b)) := h.1
theorem T3.res (h : T3 w0 wr hs g b F) : Blk wr (hs + 1) 134 (row 8 (b8 fun _ => 0)) := h.2.1
theorem T3.bel (h : T3 w0 wr hs g b F) : Below hs w0 wr := h.2.2.2.2
theorem T3.ks (h : T3 w0 wr hs g b F) : Blk wr g 154 (row 24 (b8 F)) := h.2.2.1
theorem T3.below (h : T3 w0 wr hs g b F) (hb : Below wr.heap.size wr w') : T3 w0 w' hs g b F :=
 ⟨h.1.below hb h.1.lt, h.2.1.below hb h.2.1.lt, h.2.2.1.below hb h.2.2.1.lt, h.2.2.2.1, h.2.2.2.2.trans (hb.mono (Nat.le_of_lt h.1.lt))⟩
theorem T3.put (h : T3 w0 wr hs g b F) (b' : Nat → Nat) : T3 w0 (wr.setRow hs (row 8 (b8 b'))) hs g b' F :=
 ⟨h.1.setRow _, h.2.1.otherRow _ _ (by omega), h.2.2.1.otherRow _ _ (by have := h.2.2.2.1; omega), h.2.2.2.1, below_setRow' h.2.2.2.2 (Nat.le_refl _) _⟩
theorem T3.keys (h : T3 w0 wr hs g b F) {F' : Nat → Nat} (ho : Only g wr w') (hb : Blk w' g 154 (row 24 (b8 F'))) : T3 w0 w' hs g b F' :=
 ⟨ho.blk h.1 (by have := h.2.2.2.1; omega), ho.blk h.2.1 (by have := h.2.2.2.1; omega), hb, h.2.2.2.1, h.2.2.2.2.trans (ho.below (by have := h.2.2.2.1; omega))⟩
end
set_option maxRecDepth 100000 in
set_option maxHeartbeats 4000000 in
theorem triple_fwd (A : Option Addr) (L c : Nat) (hL : IsTKey L) (hc : L ≤ c) (key b : Nat → Nat) (w : World) (hk : ∀ i, i < L → key i < 256) (hb : By8 b) (hR : Reads w w.heap.size A L key) :
  Calls Tryz.prog 76 #[.slice A L c, .agg (row 8 (b8 b)), .bool false] w fun e w' => e = .returned (.tuple #[.agg (row 8 (b8 (tdes L key b false))), .nilIface]) ∧ Below w.heap.size w w' := by
 have Hk := hid (fun k (h : k < 3) => tkey_by hL hk k h)
 have Hb := hid hb
 have HL := hid hL
 clear hk hb hL
 have hb1 := (Blk.fresh w 134 (row 8 (b8 b))).alloc (.cells (row 8 (b8 fun _ => 0)) 134)
 have hb2 := two_new w (.cells (row 8 (b8 b)) 134) (row 8 (b8 fun _ => 0)) 134
 have hB2 : Below w.heap.size w ((w.alloc (.cells (row 8 (b8 b)) 134)).alloc (.cells (row 8 (b8 fun _ => 0)) 134)) := ((Below.refl _ _).alloc (Nat.le_refl _) _).alloc (by simp) _
 have hR2 := (hR.below hB2).more hB2.size
 have q0 : 0 * 8 = 0 := rfl
 have q1 : 1 * 8 = 8 := rfl
 have q2 : 2 * 8 = 16 := rfl
 go_enter Tryz.func76, Tryz.ntmps76
 go_wp2_with (with_reducible refine wpl_alloc rfl 134 rfl _ z8 ?_)
 refine (three_any A L c HL.out hc key _ hR2).mono ?_
 rintro e w1 ⟨rfl, hB3⟩
 have hB4 := hB2.trans (hB3.mono hB2.size)
 have hT : T3 w (w1.alloc (.cells (row 24 (b8 (three L key))) 154)) w.heap.size w1.heap.size b (three L key) :=
  ⟨(hb1.below hB3 hb1.lt).alloc _, (hb2.below hB3 hb2.lt).alloc _, Blk.fresh _ _ _, by have := hb2.lt; have := hB3.size; omega, hB4.alloc hB4.size _⟩
 clear hb1 hb2 hB2 hR2 hB3 hB4 hR
 have HF : Hid (∀ k, k < 3 → ∀ i, i < 8 → (three L key) (8 * k + i) = tkey L key (k) i) := hid (fun k hk i hi => three_at L key k i hi)
 have hT1 := hT
 clear hT
 have m0 := hid (blk_mid hT1.ks 0 (by omega) 0 rfl)
 go_wp2_with (first
  | (with_reducible refine wpl_alloc rfl 154 rfl _ z83 ?_)
  | (with_reducible refine wpl_store_new rfl 154 _ _ rfl w1 _ 24 _ rfl rfl 154 i83 (row_size _ _) ?_)
  | (with_reducible refine wpl_at8 rfl 154 _ _ rfl _ rfl _ rfl 0 rfl 3 134 Tryz.underlying154 (by omega) 8 i8a 0 q0 ?_)
  | (with_reducible refine wpl_val rfl _ (exec_loadO 134 _ rfl _ 0 rfl 8 _ m0.out 5 Tryz.underlying134 i8a) ?_)
  | (with_reducible refine wpl_load rfl 134 _ rfl _ rfl 134 _ hT1.blk 8 5 Tryz.underlying134 (i8a' _) ?_))
 generalize w1.alloc (.cells (row 24 (b8 (three L key))) 154) = w2 at *
 generalize w1.heap.size = g at *
 have HB : ∀ k, k < 3 → By8 (fun i => (three L key) (8 * k + i)) := fun k hk i hi => by
  show (three L key) (8 * k + i) < 256
  rw [HF.out k hk i hi]; exact Hk.out _ (by omega) i hi
 have HB' := hid HB
 clear HB
 have Hres : Hid (des (fun i => (three L key) (8 * 2 + i)) (des (fun i => (three L key) (8 * 1 + i)) (des (fun i => (three L key) (8 * 0 + i)) b false) true) false = tdes L key b false) := hid (by
  unfold tdes
  rw [des_ext (k := fun i => (three L key) (8 * 0 + i)) (fun i hi => HF.out 0 (by omega) i hi) (fun _ _ => rfl), des_ext (k := fun i => (three L key) (8 * 1 + i)) (fun i hi => HF.out 1 (by omega) i hi) (fun _ _ => rfl), des_ext (k := fun i => (three L key) (8 * 2 + i)) (fun i hi => HF.out 2 (by omega) i hi) (fun _ _ => rfl)]
  rfl)
 clear HF Hk
 generalize (three L key) = F at *
 refine (block_any (fun i => F (8 * 0 + i)) b false (HB'.out 0 (by omega)) Hb.out _).mono ?_
 rintro e w3 ⟨rfl, hB3⟩
 have Hd1 := hid (des_by (fun i => F (8 * 0 + i)) b false)
 generalize des (fun i => F (8 * 0 + i)) b false = b1 at *
 have hT2 := (hT1.below hB3).put b1
 have hT1' := hT1.below hB3
 have m1 := hid (blk_mid hT2.ks 1 (by omega) 8 rfl)
 clear hT1 hB3 m0
 go_wp2_with (first
  | (with_reducible refine wpl_store rfl 134 _ _ rfl _ _ rfl rfl 134 _ hT1'.blk (i8a' _) (by simp [row_size]) (one_b8 _ _) ?_)
  | (with_reducible refine wpl_at8 rfl 154 _ _ rfl _ rfl _ rfl 1 rfl 3 134 Tryz.underlying154 (by omega) 8 i8a 8 q1 ?_)
  | (with_reducible refine wpl_val rfl _ (exec_loadO 134 _ rfl _ 8 rfl 8 _ m1.out 5 Tryz.underlying134 i8a) ?_)
  | (with_reducible refine wpl_load rfl 134 _ rfl _ rfl 134 _ hT2.blk 8 5 Tryz.underlying134 (i8a' _) ?_))
 clear hT1'
 generalize w3.setRow w.heap.size (row 8 (b8 b1)) = w4 at *
 refine (block_any (fun i => F (8 * 1 + i)) b1 true (HB'.out 1 (by omega)) Hd1.out _).mono ?_
 rintro e w5 ⟨rfl, hB5⟩
 have Hd2 := hid (des_by (fun i => F (8 * 1 + i)) b1 true)
 generalize des (fun i => F (8 * 1 + i)) b1 true = b2 at *
 have hT3 := (hT2.below hB5).put b2
 have hT2' := hT2.below hB5
 have m2 := hid (blk_mid hT3.ks 2 (by omega) 16 rfl)
 clear hT2 hB5 m1
 go_wp2_with (first
  | (with_reducible refine wpl_store rfl 134 _ _ rfl _ _ rfl rfl 134 _ hT2'.blk (i8a' _) (by simp [row_size]) (one_b8 _ _) ?_)
  | (with_reducible refine wpl_at8 rfl 154 _ _ rfl _ rfl _ rfl 2 rfl 3 134 Tryz.underlying154 (by omega) 8 i8a 16 q2 ?_)
  | (with_reducible refine wpl_val rfl _ (exec_loadO 134 _ rfl _ 16 rfl 8 _ m2.out 5 Tryz.underlying134 i8a) ?_)
  | (with_reducible refine wpl_load rfl 134 _ rfl _ rfl 134 _ hT3.blk 8 5 Tryz.underlying134 (i8a' _) ?_))
 clear hT2'
 generalize w5.setRow w.heap.size (row 8 (b8 b2)) = w6 at *
 refine (block_any (fun i => F (8 * 2 + i)) b2 false (HB'.out 2 (by omega)) Hd2.out _).mono ?_
 rintro e w7 ⟨rfl, hB7⟩
 have hT4 := hT3.below hB7
 clear hT3 hB7
 rw [Hres.out]
 go_wp2_with (with_reducible refine wpl_store rfl 134 _ _ rfl _ _ rfl rfl 134 _ hT4.res (i8a' _) (by simp [row_size]) (one_b8 _ _) ?_)
 exact ret_row_tmp Tryz.results76 rfl (w.heap.size + 1) rfl .nilIface rfl 134 8 _ (hT4.res.setRow _) 5 Tryz.underlying134 i8a ⟨rfl, below_setRow' hT4.bel (by omega) _⟩
set_option maxRecDepth 100000 in
set_option maxHeartbeats 4000000 in
theorem triple_bwd (A : Option Addr) (L c : Nat) (hL : IsTKey L) (hc : L ≤ c) (key b : Nat → Nat) (w : World) (hk : ∀ i, i < L → key i < 256) (hb : By8 b) (hR : Reads w w.heap.size A L key) :
  Calls Tryz.prog 76 #[.slice A L c, .agg (row 8 (b8 b)), .bool true] w fun e w' => e = .returned (.tuple #[.agg (row 8 (b8 (tdes L key b true))), .nilIface]) ∧ Below w.heap.size w w' := by
 have Hk := hid (fun k (h : k < 3) => tkey_by hL hk k h)
 have Hb := hid hb
 have HL := hid hL
 clear hk hb hL
 have hb1 := (Blk.fresh w 134 (row 8 (b8 b))).alloc (.cells (row 8 (b8 fun _ => 0)) 134)
 have hb2 := two_new w (.cells (row 8 (b8 b)) 134) (row 8 (b8 fun _ => 0)) 134
 have hB2 : Below w.heap.size w ((w.alloc (.cells (row 8 (b8 b)) 134)).alloc (.cells (row 8 (b8 fun _ => 0)) 134)) := ((Below.refl _ _).alloc (Nat.le_refl _) _).alloc (by simp) _
 have hR2 := (hR.below hB2).more hB2.size
 have q0 : 0 * 8 = 0 := rfl
 have q1 : 1 * 8 = 8 := rfl
 have q2 : 2 * 8 = 16 := rfl
 go_enter Tryz.func76, Tryz.ntmps76
 go_wp2_with (with_reducible refine wpl_alloc rfl 134 rfl _ z8 ?_)
 refine (three_any A L c HL.out hc key _ hR2).mono ?_
 rintro e w1 ⟨rfl, hB3⟩
 have hB4 := hB2.trans (hB3.mono hB2.size)
 have hT : T3 w (w1.alloc (.cells (row 24 (b8 (three L key))) 154)) w.heap.size w1.heap.size b (three L key) :=
  ⟨(hb1.below hB3 hb1.lt).alloc _, (hb2.below hB3 hb2.lt).alloc _, Blk.fresh _ _ _, by have := hb2.lt; have := hB3.size; omega, hB4.alloc hB4.size _⟩
 clear hb1 hb2 hB2 hR2 hB3 hB4 hR
 have HF : Hid (∀ k, k < 3 → ∀ i, i < 8 → (swap3 (three L key)) (8 * k + i) = tkey L key (2 - k) i) := hid (fun k hk i hi => swap_at L key k i hk hi)
 go_wp2_with (first
  | (with_reducible refine wpl_alloc rfl 154 rfl _ z83 ?_)
  | (with_reducible refine wpl_store_new rfl 154 _ _ rfl w1 _ 24 _ rfl rfl 154 i83 (row_size _ _) ?_))
 refine (rev3_any _ _ _ hT.ks).mono ?_
 rintro e w2 ⟨rfl, hb3, hO⟩
 have hT1 := hT.keys hO hb3
 clear hT hb3 hO
 generalize w1.heap.size = g at *
 have m0 := hid (blk_mid hT1.ks 0 (by omega) 0 rfl)
 go_wp2_with (first
  | (with_reducible refine wpl_at8 rfl 154 _ _ rfl _ rfl _ rfl 0 rfl 3 134 Tryz.underlying154 (by omega) 8 i8a 0 q0 ?_)
  | (with_reducible refine wpl_val rfl _ (exec_loadO 134 _ rfl _ 0 rfl 8 _ m0.out 5 Tryz.underlying134 i8a) ?_)
  | (with_reducible refine wpl_load rfl 134 _ rfl _ rfl 134 _ hT1.blk 8 5 Tryz.underlying134 (i8a' _) ?_))
 have HB : ∀ k, k < 3 → By8 (fun i => (swap3 (three L key)) (8 * k + i)) := fun k hk i hi => by
  show (swap3 (three L key)) (8 * k + i) < 256
  rw [HF.out k hk i hi]; exact Hk.out _ (by omega) i hi
 have HB' := hid HB
 clear HB
 have Hres : Hid (des (fun i => (swap3 (three L key)) (8 * 2 + i)) (des (fun i => (swap3 (three L key)) (8 * 1 + i)) (des (fun i => (swap3 (three L key)) (8 * 0 + i)) b true) false) true = tdes L key b true) := hid (by
  unfold tdes
  rw [des_ext (k := fun i => (swap3 (three L key)) (8 * 0 + i)) (fun i hi => HF.out 0 (by omega) i hi) (fun _ _ => rfl), des_ext (k := fun i => (swap3 (three L key)) (8 * 1 + i)) (fun i hi => HF.out 1 (by omega) i hi) (fun _ _ => rfl), des_ext (k := fun i => (swap3 (three L key)) (8 * 2 + i)) (fun i hi => HF.out 2 (by omega) i hi) (fun _ _ => rfl)]
  rfl)
 clear HF Hk
 generalize (swap3 (three L key)) = F at *
 refine (block_any (fun i => F (8 * 0 + i)) b true (HB'.out 0 (by omega)) Hb.out _).mono ?_
 rintro e w3 ⟨rfl, hB3⟩
 have Hd1 := hid (des_by (fun i => F (8 * 0 + i)) b true)
 generalize des (fun i => F (8 * 0 + i)) b true = b1 at *
 have hT2 := (hT1.below hB3).put b1
 have hT1' := hT1.below hB3
 have m1 := hid (blk_mid hT2.ks 1 (by omega) 8 rfl)
 clear hT1 hB3 m0
 go_wp2_with (first
  | (with_reducible refine wpl_store rfl 134 _ _ rfl _ _ rfl rfl 134 _ hT1'.blk (i8a' _) (by simp [row_size]) (one_b8 _ _) ?_)
  | (with_reducible refine wpl_at8 rfl 154 _ _ rfl _ rfl _ rfl 1 rfl 3 134 Tryz.underlying154 (by omega) 8 i8a 8 q1 ?_)
  | (with_reducible refine wpl_val rfl _ (exec_loadO 134 _ rfl _ 8 rfl 8 _ m1.out 5 Tryz.underlying134 i8a) ?_)
  | (with_reducible refine wpl_load rfl 134 _ rfl _ rfl 134 _ hT2.blk 8 5 Tryz.underlying134 (i8a' _) ?_))
 clear hT1'
 generalize w3.setRow w.heap.size (row 8 (b8 b1)) = w4 at *
 refine (block_any (fun i => F (8 * 1 + i)) b1 false (HB'.out 1 (by omega)) Hd1.out _).mono ?_
 rintro e w5 ⟨rfl, hB5⟩
 have Hd2 := hid (des_by (fun i => F (8 * 1 + i)) b1 false)
 generalize des (fun i => F (8 * 1 + i)) b1 false = b2 at *
 have hT3 := (hT2.below hB5).put b2
 have hT2' := hT2.below hB5
 have m2 := hid (blk_mid hT3.ks 2 (by omega) 16 rfl)
 clear hT2 hB5 m1
 go_wp2_with (first
  | (with_reducible refine wpl_store rfl 134 _ _ rfl _ _ rfl rfl 134 _ hT2'.blk (i8a' _) (by simp [row_size]) (one_b8 _ _) ?_)
  | (with_reducible refine wpl_at8 rfl 154 _ _ rfl _ rfl _ rfl 2 rfl 3 134 Tryz.underlying154 (by omega) 8 i8a 16 q2 ?_)
  | (with_reducible refine wpl_val rfl _ (exec_loadO 134 _ rfl _ 16 rfl 8 _ m2.out 5 Tryz.underlying134 i8a) ?_)
  | (with_reducible refine wpl_load rfl 134 _ rfl _ rfl 134 _ hT3.blk 8 5 Tryz.underlying134 (i8a' _) ?_))
 clear hT2'
 generalize w5.setRow w.heap.size (row 8 (b8 b2)) = w6 at *
 refine (block_any (fun i => F (8 * 2 + i)) b2 true (HB'.out 2 (by omega)) Hd2.out _).mono ?_
 rintro e w7 ⟨rfl, hB7⟩
 have hT4 := hT3.below hB7
 clear hT3 hB7
 rw [Hres.out]
 go_wp2_with (with_reducible refine wpl_store rfl 134 _ _ rfl _ _ rfl rfl 134 _ hT4.res (i8a' _) (by simp [row_size]) (one_b8 _ _) ?_)
 exact ret_row_tmp Tryz.results76 rfl (w.heap.size + 1) rfl .nilIface rfl 134 8 _ (hT4.res.setRow _) 5 Tryz.underlying134 i8a ⟨rfl, below_setRow' hT4.bel (by omega) _⟩
theorem triple_any (A : Option Addr) (L c : Nat) (hL : IsTKey L) (hc : L ≤ c) (key b : Nat → Nat) (back : Bool) (w : World) (hk : ∀ i, i < L → key i < 256) (hb : By8 b) (hR : Reads w w.heap.size A L key) :
  Calls Tryz.prog 76 #[.slice A L c, .agg (row 8 (b8 b)), .bool back] w fun e w' => e = .returned (.tuple #[.agg (row 8 (b8 (tdes L key b back))), .nilIface]) ∧ Below w.heap.size w w' := by
 cases back
 ·exact triple_fwd A L c hL hc key b w hk hb hR
 exact triple_bwd A L c hL hc key b w hk hb hR
end Go.Proofs.YtlmnoapoofmmnaaGreatDoor.Des
