/-
 HeadReads returns true: its walk.
-/
import Derived.Test.YtklgngdcihkfjaaDoorLaw10
namespace Go.Proofs.YtklgngdcihkfjaaDoor.Hd
open Mem As Go.ChangeShapes Go.WideShapes Go.ChangeAt Go.RowKit
section
variable {o : Oper} {a : Act} {w : World}
theorem exec_bld0 (ho : o.op = .build 23 #[]) : (execOp a.eval o).run Tryd.prog w = .ok (.value (.agg noHd)) w := by
 have e := run_build (P := Tryd.prog) w 23 #[] noHd built0
 unfold execOp
 simp only [ho, List.map_toArray, List.map_nil, e, Sem.run_bind, Sem.run_pure, Result.andThen_ok]
theorem exec_eqN (x y : Operand) (rt : TypeId) (ho : o.op = .binOp .eql 23 x y rt) (hx : a.eval x = .agg noHd) (hy : a.eval y = .agg noHd) : (execOp a.eval o).run Tryd.prog w = .ok (.value (.bool true)) w :=
 exec_eqH x y rt ho noH noH hx hy noH_ok noH_ok true (hdEq_refl _)
theorem exec_eqC (x y : Operand) (rt : TypeId) (ho : o.op = .binOp .eql 23 x y rt) (h k : Hd) (hx : a.eval x = .agg (hdC h)) (hy : a.eval y = .agg (hdC k)) (okh : h.Ok) (okk : k.Ok) (b : Bool) (hb : hdEq h k = b) : (execOp a.eval o).run Tryd.prog w = .ok (.value (.bool b)) w := exec_eqH x y rt ho h k hx hy okh okk b hb
theorem exec_neC (x y : Operand) (rt : TypeId) (ho : o.op = .binOp .neq 23 x y rt) (h k : Hd) (hx : a.eval x = .agg (hdC h)) (hy : a.eval y = .agg (hdC k)) (okh : h.Ok) (okk : k.Ok) (b : Bool) (hb : (!hdEq h k) = b) : (execOp a.eval o).run Tryd.prog w = .ok (.value (.bool b)) w := exec_neH x y rt ho h k hx hy okh okk b hb
end
theorem holdNC (h : Hd) : noHd.size = (hdC h).size := rfl
set_option maxRecDepth 100000 in
set_option maxHeartbeats 1000000 in
theorem reads_true (s : ByteArray) (w : World) (hg : Laid w ∧ Tab w) : Calls Tryd.prog 4 #[.string s] w fun e w' => e = .returned (.bool true) ∧ Below w.heap.size w w' := by
 obtain ⟨n, f, hf, rfl⟩ : ∃ n f, (∀ i, f i < 256) ∧ s = strF n f := by
  obtain ⟨f, h1, h2⟩ := strF_of s
  exact ⟨_, f, h1, h2⟩
 have hsz := strF_size n f
 have HB0 := hid (Below.refl w.heap.size w)
 have Hg0 := hid hg.1
 have HT0 := hid hg.2
 obtain ⟨w0, hw0⟩ : ∃ x, x = w := ⟨_, rfl⟩
 rw [← hw0] at Hg0 HT0 hg ⊢
 have HB0 : Hid (Below w0.heap.size w0 w0) := hid (Below.refl _ _)
 clear hw0 hg
 by_cases hn : 200 < n
 ·have hI : (200 : Int) < (n : Int) := by omega
  go_enter Tryd.func4, Tryd.ntmps4
  go_wp2_with fail
  refine (awake10_any _ Hg0.out HT0.out).mono ?_
  rintro e w1 ⟨rfl, hB1⟩
  have Hg1 := hid (Hg0.out.below hB1)
  have HT1 := hid (HT0.out.below hB1)
  have HB1 := hid (HB0.out.trans (hB1.mono HB0.out.size))
  clear hB1 Hg0 HT0 HB0
  go_wp2_with fail
  refine (awake10_any _ Hg1.out HT1.out).mono ?_
  rintro e w2 ⟨rfl, hB2⟩
  have Hg2 := hid (Hg1.out.below hB2)
  have HT2 := hid (HT1.out.below hB2)
  have HB2 := hid (HB1.out.trans (hB2.mono HB1.out.size))
  clear hB2 Hg1 HT1 HB1
  go_wp2_with fail
  go_ret
  exact ⟨rfl, HB2.out⟩
 have hI : ¬ (200 : Int) < (n : Int) := by omega
 by_cases h16 : n < 16
 ·have h16I : (n : Int) < 16 := by omega
  go_enter Tryd.func4, Tryd.ntmps4
  go_wp2_with fail
  refine (awake10_any _ Hg0.out HT0.out).mono ?_
  rintro e w1 ⟨rfl, hB1⟩
  have Hg1 := hid (Hg0.out.below hB1)
  have HT1 := hid (HT0.out.below hB1)
  have HB1 := hid (HB0.out.trans (hB1.mono HB0.out.size))
  clear hB1 Hg0 HT0 HB0
  go_wp2_with fail
  refine (parse_short n f h16 _).mono ?_
  rintro e w2 ⟨rfl, hB2⟩
  have Hg2 := hid (Hg1.out.below hB2)
  have HB2 := hid (HB1.out.trans (hB2.mono HB1.out.size))
  clear hB2 Hg1 HB1
  have hn3 := Blk.fresh w2 23 noHd
  have hB3 := below_setRow' ((Below.refl w2.heap.size w2).alloc (Nat.le_refl _) (.cells noHd 23)) (Nat.le_refl _) noHd
  have Hq3 := hid (hn3.setRow noHd)
  have Hn3 := hid hn3
  clear hn3
  have Hg3 := hid (Hg2.out.below hB3)
  have HB3 := hid (HB2.out.trans (hB3.mono HB2.out.size))
  clear hB3 Hg2 HB2
  go_wp2_with (first
   | (with_reducible refine wpl_alloc rfl 23 rfl _ zHead ?_)
   | (with_reducible refine wpl_storeH rfl 23 _ _ rfl w2.heap.size noHd rfl rfl 23 _ Hn3.out sizeN rfl oneNo ?_))
  refine (code_hit 2 _ Hg3.out).mono ?_
  rintro e w4 ⟨rfl, hB4⟩
  have Hg4 := hid (Hg3.out.below hB4)
  have Hq4 := hid (Hq3.out.below hB4 Hq3.out.lt)
  have HB4 := hid (HB3.out.trans (hB4.mono HB3.out.size))
  clear hB4 Hg3 Hq3 HB3
  go_wp2_with (first
   | ((with_reducible refine wpg_val ?_ _ (exec_ldcs 23 _ rfl w2.heap.size rfl 23 _ Hq4.out _ Tryd.underlying23 sizeN) ?_); exact rfl)
   | ((with_reducible refine wpg_val ?_ _ (exec_bld0 rfl) ?_); exact rfl)
   | ((with_reducible refine wpg_val ?_ _ (exec_eqN _ _ _ rfl rfl rfl) ?_); exact rfl))
  go_ret
  exact ⟨rfl, HB4.out⟩
 have h16I : ¬ (n : Int) < 16 := by omega
 have h16n : 16 ≤ n := by omega
 go_enter Tryd.func4, Tryd.ntmps4
 go_wp2_with fail
 refine (awake10_any _ Hg0.out HT0.out).mono ?_
 rintro e w1 ⟨rfl, hB1⟩
 have Hg1 := hid (Hg0.out.below hB1)
 have HT1 := hid (HT0.out.below hB1)
 have HB1 := hid (HB0.out.trans (hB1.mono HB0.out.size))
 clear hB1 Hg0 HT0 HB0
 go_wp2_with fail
 refine (parse_any n f hf h16n (by omega) _ Hg1.out).mono ?_
 rintro e w2 ⟨hB2, ho⟩
 rcases ho with ⟨hz, rfl⟩ | ⟨hz, g, hgl, rfl, hbF⟩
 ·have Hg2 := hid (Hg1.out.below hB2)
  have HB2 := hid (HB1.out.trans (hB2.mono HB1.out.size))
  clear hB2 Hg1 HB1
  have hn3 := Blk.fresh w2 23 noHd
  have hB3 := below_setRow' ((Below.refl w2.heap.size w2).alloc (Nat.le_refl _) (.cells noHd 23)) (Nat.le_refl _) (hdC (cutH f))
  have Hq3 := hid (hn3.setRow (hdC (cutH f)))
  have Hn3 := hid hn3
  clear hn3
  have Hg3 := hid (Hg2.out.below hB3)
  have HB3 := hid (HB2.out.trans (hB3.mono HB2.out.size))
  clear hB3 Hg2 HB2
  go_wp2_with (first
   | (with_reducible refine wpl_alloc rfl 23 rfl _ zHead ?_)
   | (with_reducible refine wpl_storeH rfl 23 _ _ rfl w2.heap.size (hdC (cutH f)) rfl rfl 23 _ Hn3.out (sizeC _) (holdNC _) (oneC _) ?_))
  refine (rparse_any n f hf h16n (by omega) _).mono ?_
  rintro e w4 ⟨hB4, ho⟩
  rcases ho with ⟨-, rfl⟩ | ⟨hz2, -⟩
  rotate_left
  ·omega
  have Hg4 := hid (Hg3.out.below hB4)
  have Hq4 := hid (Hq3.out.below hB4 Hq3.out.lt)
  have HB4 := hid (HB3.out.trans (hB4.mono HB3.out.size))
  clear hB4 Hg3 Hq3 HB3
  have Hp4 := Hq4
  clear Hq4
  have hn5 := Blk.fresh w4 23 noHd
  have hB5 := below_setRow' ((Below.refl w4.heap.size w4).alloc (Nat.le_refl _) (.cells noHd 23)) (Nat.le_refl _) (hdC (cutH f))
  have Hq5 := hid (hn5.setRow (hdC (cutH f)))
  have Hn5 := hid hn5
  clear hn5
  have Hg5 := hid (Hg4.out.below hB5)
  have Hp5 := hid (Hp4.out.below hB5 Hp4.out.lt)
  have HB5 := hid (HB4.out.trans (hB5.mono HB4.out.size))
  clear hB5 Hg4 Hp4 HB4
  go_wp2_with (first
   | (with_reducible refine wpl_alloc rfl 23 rfl _ zHead ?_)
   | (with_reducible refine wpl_storeH rfl 23 _ _ rfl w4.heap.size (hdC (cutH f)) rfl rfl 23 _ Hn5.out (sizeC _) (holdNC _) (oneC _) ?_)
   | ((with_reducible refine wpg_val ?_ _ (exec_ldcs 23 _ rfl w2.heap.size rfl 23 _ Hp5.out _ Tryd.underlying23 (sizeC _)) ?_); exact rfl)
   | ((with_reducible refine wpg_val ?_ _ (exec_ldcs 23 _ rfl w4.heap.size rfl 23 _ Hq5.out _ Tryd.underlying23 (sizeC _)) ?_); exact rfl)
   | ((with_reducible refine wpg_val ?_ _ (exec_eqC _ _ _ rfl (cutH f) (cutH f) rfl rfl (cutH_ok hf) (cutH_ok hf) _ (hdEq_refl _)) ?_); exact rfl))
  go_ret
  exact ⟨rfl, HB5.out⟩
 have HF2 := hid hbF
 clear hbF
 have Hg2 := hid (Hg1.out.below hB2)
 have HB2 := hid (HB1.out.trans (hB2.mono HB1.out.size))
 clear hB2 Hg1 HB1
 have hn3 := Blk.fresh w2 23 noHd
 have hB3 := below_setRow' ((Below.refl w2.heap.size w2).alloc (Nat.le_refl _) (.cells noHd 23)) (Nat.le_refl _) noHd
 have Hq3 := hid (hn3.setRow noHd)
 have Hn3 := hid hn3
 clear hn3
 have Hg3 := hid (Hg2.out.below hB3)
 have HF3 := hid (HF2.out.below hB3 HF2.out.lt)
 have HB3 := hid (HB2.out.trans (hB3.mono HB2.out.size))
 clear hB3 Hg2 HF2 HB2
 go_wp2_with (first
  | (with_reducible refine wpl_alloc rfl 23 rfl _ zHead ?_)
  | (with_reducible refine wpl_storeH rfl 23 _ _ rfl w2.heap.size noHd rfl rfl 23 _ Hn3.out sizeN rfl oneNo ?_))
 refine (rparse_any n f hf h16n (by omega) _).mono ?_
 rintro e w4 ⟨hB4, ho⟩
 rcases ho with ⟨hz2, -⟩ | ⟨-, rfl⟩
 ·omega
 have Hg4 := hid (Hg3.out.below hB4)
 have Hq4 := hid (Hq3.out.below hB4 Hq3.out.lt)
 have HF4 := hid (HF3.out.below hB4 HF3.out.lt)
 have HB4 := hid (HB3.out.trans (hB4.mono HB3.out.size))
 clear hB4 Hg3 Hq3 HF3 HB3
 have Hp4 := Hq4
 clear Hq4
 have hn5 := Blk.fresh w4 23 noHd
 have hB5 := below_setRow' ((Below.refl w4.heap.size w4).alloc (Nat.le_refl _) (.cells noHd 23)) (Nat.le_refl _) noHd
 have Hq5 := hid (hn5.setRow noHd)
 have Hn5 := hid hn5
 clear hn5
 have Hg5 := hid (Hg4.out.below hB5)
 have Hp5 := hid (Hp4.out.below hB5 Hp4.out.lt)
 have HF5 := hid (HF4.out.below hB5 HF4.out.lt)
 have HB5 := hid (HB4.out.trans (hB5.mono HB4.out.size))
 clear hB5 Hg4 Hp4 HF4 HB4
 go_wp2_with (first
  | (with_reducible refine wpl_alloc rfl 23 rfl _ zHead ?_)
  | (with_reducible refine wpl_storeH rfl 23 _ _ rfl w4.heap.size noHd rfl rfl 23 _ Hn5.out sizeN rfl oneNo ?_))
 refine (code_fault 6 _ _ Hg5.out (HF5.out.cell 1)).mono ?_
 rintro e w6 ⟨rfl, hB6⟩
 have Hg6 := hid (Hg5.out.below hB6)
 have HF6 := hid (HF5.out.below hB6 HF5.out.lt)
 have Hp6 := hid (Hp5.out.below hB6 Hp5.out.lt)
 have HB6 := hid (HB5.out.trans (hB6.mono HB5.out.size))
 clear hB6 Hg5 HF5 Hp5 HB5
 go_wp2_with fail
 refine (at_fault _ _ _ _ Hg6.out HF6.out).mono ?_
 rintro e w7 ⟨rfl, hB7⟩
 have Hp7 := hid (Hp6.out.below hB7 Hp6.out.lt)
 have HB7 := hid (HB6.out.trans (hB7.mono HB6.out.size))
 clear hB7 Hp6 HB6
 go_wp2_with (first
  | ((with_reducible refine wpg_val ?_ _ (exec_ldcs 23 _ rfl w2.heap.size rfl 23 _ Hp7.out _ Tryd.underlying23 sizeN) ?_); exact rfl)
  | ((with_reducible refine wpg_val ?_ _ (exec_bld0 rfl) ?_); exact rfl)
  | ((with_reducible refine wpg_val ?_ _ (exec_eqN _ _ _ rfl rfl rfl) ?_); exact rfl))
 go_ret
 exact ⟨rfl, HB7.out⟩
end Go.Proofs.YtklgngdcihkfjaaDoor.Hd
