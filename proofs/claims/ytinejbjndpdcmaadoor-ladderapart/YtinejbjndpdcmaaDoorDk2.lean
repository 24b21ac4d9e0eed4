/-
 dukpt: what turned, masked and joined return.
-/
import Derived.Test.YtinejbjndpdcmaaDoorDk1
import Derived.Test.YtinejbjndpdcmaaDoorConcat
import Derived.Test.YtinejbjndpdcmaaDoorDesY
namespace Go.Proofs.YtinejbjndpdcmaaDoor.Dk
open Go.ChangeShapes Go.WideShapes Go.ChangeAt Go.RowKit Mem
def tnF (a b : Nat → Nat) : Nat → Nat := fun i => a i ^^^ b i
def mkF (k : Nat → Nat) : Nat → Nat := fun i => if i % 8 < 4 then k i ^^^ 192 else k i
set_option maxRecDepth 100000 in
set_option maxHeartbeats 2000000 in
theorem turned_any (f g : Nat → Nat) (hf : ∀ i, i < 8 → f i < 256) (hg : ∀ i, i < 8 → g i < 256) (w : World) : Calls Tryd.prog 39 #[.agg (row 8 (b8 f)), .agg (row 8 (b8 g))] w fun e w' => e = .returned (.agg (row 8 (b8 (tnF f g)))) ∧ Below w.heap.size w w' := by
 have Hf := hid hf
 have Hg := hid hg
 clear hf hg
 go_enter Tryd.func39, Tryd.ntmps39
 go_wp2_with (first | (with_reducible refine wpl_alloc rfl 57 rfl _ z8 ?_))
 go_loopw [6] (fun i wr => ∃ (k : Nat) (m : Nat → Nat), k ≤ 8 ∧ i = .int .i64 k ∧ Hid (∀ j, m j = if j < k then tnF f g j else f j) ∧ Blk wr w.heap.size 57 (row 8 (b8 m)) ∧ Blk wr (w.heap.size + 1) 57 (row 8 (b8 g)) ∧ (∃ z, Blk wr (w.heap.size + 1 + 1) 57 (row 8 (b8 z))) ∧ Below w.heap.size w wr) (fun i _ => 8 - (intOf i).toNat)
 case atStart =>
  exact ⟨0, f, by omega, rfl, hid (by simp), ((Blk.fresh _ _ _).alloc _).alloc _, (Des.two_new _ _ _ _).alloc _, ⟨fun _ => 0, by simpa using Blk.fresh ((w.alloc (.cells (row 8 (b8 f)) 57)).alloc (.cells (row 8 (b8 g)) 57)) 57 (row 8 (b8 fun _ => 0))⟩, (((Below.refl _ _).alloc (Nat.le_refl _) _).alloc (by simp) _).alloc (by simp; omega) _⟩
 case round =>
  obtain ⟨k, m, hk, rfl, HM, hb1, hb2, ⟨z, hb3⟩, hB⟩ := hrel
  by_cases hlt : k < 8
  ·have hfk := Hf.out k hlt
   have hgk := Hg.out k hlt
   have Hmk : Hid (m k = f k) := hid (by rw [HM.out k, if_neg (by omega)])
   go_wp2_with fail
   refine wp_region_still_tail 8 (by kernel_rfl) (by kernel_rfl) ?_
   simp only [List.take_succ_cons, List.take_zero, List.drop_succ_cons, List.drop_zero]
   change wpStill _ _ wr.drew (fun a' => wpList _ _ _ _ a' wr.drew) _ _
   have hb1' : Blk wr.drew w.heap.size 57 (row 8 (b8 m)) := hb1
   have hb2' : Blk wr.drew (w.heap.size + 1) 57 (row 8 (b8 g)) := hb2
   have hb3' : Blk wr.drew (w.heap.size + 1 + 1) 57 (row 8 (b8 z)) := hb3
   have hB' := hB.drew
   clear hb1 hb2 hb3 hB
   generalize wr.drew = w2 at *
   have hd1 := hb1'.val k hlt
   have hd2 := hb2'.val k hlt
   have hd3 := hb1'.free k
   repeat (first
    | (with_reducible refine wps_at rfl 57 _ _ rfl _ rfl .i64 _ rfl k rfl 8 5 Tryd.underlying57 hlt i1 ?_)
    | (with_reducible refine wps_ld rfl 5 _ rfl _ rfl .u8 Tryd.underlying5 _ hd1 ?_)
    | (with_reducible refine wps_ld rfl 5 _ rfl _ rfl .u8 Tryd.underlying5 _ hd2 ?_)
    | still_step)
   refine wpStill_nil ?_
   go_wp2_with (with_reducible refine wpl_st rfl 5 _ _ rfl _ rfl .u8 _ rfl i1 _ hd1 hd3 ?_)
   go_round
   case rel =>
    rw [Hmk.out, u8_xor_nat _ _ hfk hgk]
    exact ⟨k + 1, upd m k (tnF f g k), by omega, val_int (by omega), hid (fill_step (F := tnF f g) HM.out), hb1'.put k _, hb2'.other _ _ (by simp), ⟨z, hb3'.other _ _ (by simp; omega)⟩, hB'.setCell (by simp) _⟩
   case measure => simp [intOf]; omega
  go_wp2_with (first
   | (with_reducible refine wpl_load rfl 57 _ rfl _ rfl 57 _ hb1 8 5 Tryd.underlying57 (i8' _) ?_)
   | (with_reducible refine wpl_store rfl 57 _ _ rfl _ _ rfl rfl 57 _ hb3 (i8' _) (by simp [row_size]) (one_b8 _ _) ?_))
  exact ret_row Tryd.results39 rfl (w.heap.size + 1 + 1) rfl 57 8 _ (hb3.setRow _) 5 Tryd.underlying57 i8a ⟨ret_agg (fill_end HM.out (by omega)), below_setRow' hB (by omega) _⟩
set_option maxRecDepth 100000 in
set_option maxHeartbeats 2000000 in
theorem masked_any (f : Nat → Nat) (hf : ∀ i, i < 16 → f i < 256) (w : World) : Calls Tryd.prog 34 #[.agg (row 16 (b8 f))] w fun e w' => e = .returned (.agg (row 16 (b8 (mkF f)))) ∧ Below w.heap.size w w' := by
 have Hf := hid hf
 clear hf
 go_enter Tryd.func34, Tryd.ntmps34
 go_wp2_with (first | (with_reducible refine wpl_alloc rfl 27 rfl _ z16 ?_))
 go_loopw [4] (fun i wr => ∃ (k : Nat) (m : Nat → Nat), k ≤ 4 ∧ i = .int .i64 k ∧ Hid (∀ j, j < 16 → m j = if j % 8 < k then mkF f j else f j) ∧ Blk wr w.heap.size 27 (row 16 (b8 m)) ∧ (∃ z, Blk wr (w.heap.size + 1) 27 (row 16 (b8 z))) ∧ Below w.heap.size w wr) (fun i _ => 4 - (intOf i).toNat)
 case atStart =>
  exact ⟨0, f, by omega, rfl, hid (by simp), (Blk.fresh _ _ _).alloc _, ⟨fun _ => 0, Des.two_new _ _ _ _⟩, ((Below.refl _ _).alloc (Nat.le_refl _) _).alloc (by simp) _⟩
 case round =>
  obtain ⟨k, m, hk, rfl, HM, hb1, ⟨z, hb3⟩, hB⟩ := hrel
  by_cases hlt : k < 4
  ·have hfk := Hf.out k (by omega)
   have hfk8 := Hf.out (8 + k) (by omega)
   have Hmk : Hid (m k = f k) := hid (by rw [HM.out k (by omega), if_neg (by omega)])
   have Hmk8 : Hid (m (8 + k) = f (8 + k)) := hid (by rw [HM.out (8 + k) (by omega), if_neg (by omega)])
   have hd1 := hb1.val k (by omega)
   have hf1 := hb1.free k
   have w8 := wrap_i64 (8 + (k : Int)) _ rfl (by omega) (by omega)
   have l1 : k < 16 := by omega
   have l2 : 8 + k < 16 := by omega
   have e1 : Hid (bits .xor .u8 ((f k : Nat) : Int) 192 = ((f k ^^^ 192 : Nat) : Int)) := hid (u8_xor_nat (f k) 192 hfk (by omega))
   have e2 : Hid (bits .xor .u8 ((f (8 + k) : Nat) : Int) 192 = ((f (8 + k) ^^^ 192 : Nat) : Int)) := hid (u8_xor_nat (f (8 + k)) 192 hfk8 (by omega))
   rw [Hmk.out] at hd1
   have hx1 : Blk (wr.setCell ⟨w.heap.size, k, none⟩ (.int .u8 (bits .xor .u8 ((f k : Nat) : Int) 192))) w.heap.size 27 (row 16 (b8 (upd m k (f k ^^^ 192)))) := by rw [e1.out]; exact hb1.put k _
   have hd2 := hx1.val (8 + k) (by omega)
   have hf2 := hx1.free (8 + k)
   have hm2 : upd m k (f k ^^^ 192) (8 + k) = f (8 + k) := by unfold upd; rw [if_neg (by omega), Hmk8.out]
   rw [hm2] at hd2
   go_wp2_with (first
    | (with_reducible refine wpl_at rfl 27 _ _ rfl _ rfl .i64 _ rfl k rfl 16 5 Tryd.underlying27 l1 i1 ?_)
    | (with_reducible refine wpl_at rfl 27 _ _ rfl _ rfl .i64 _ rfl (8 + k) rfl 16 5 Tryd.underlying27 l2 i1 ?_)
    | (with_reducible refine wpl_ld rfl 5 _ rfl _ rfl .u8 Tryd.underlying5 _ hd1 ?_)
    | (with_reducible refine wpl_ld rfl 5 _ rfl _ rfl .u8 Tryd.underlying5 _ hd2 ?_)
    | (with_reducible refine wpl_st rfl 5 _ _ rfl _ rfl .u8 _ rfl i1 _ hd1 hf1 ?_)
    | (with_reducible refine wpl_st rfl 5 _ _ rfl _ rfl .u8 _ rfl i1 _ hd2 hf2 ?_))
   go_round
   case rel =>
    have hx2 := hx1.put (8 + k) (f (8 + k) ^^^ 192)
    rw [← e2.out] at hx2
    refine ⟨k + 1, _, by omega, val_int (by omega), hid (fun j hj16 => ?_), hx2, ⟨z, (hb3.other _ _ (by simp)).other _ _ (by simp)⟩, (hB.setCell (by simp) _).setCell (by simp) _⟩
    have hj := HM.out j hj16
    unfold upd
    by_cases a1 : j = 8 + k
    ·subst a1
     rw [if_pos rfl, if_pos (by omega)]
     unfold mkF
     rw [if_pos (by omega)]
    rw [if_neg a1]
    by_cases a2 : j = k
    ·subst a2
     rw [if_pos rfl, if_pos (by omega)]
     unfold mkF
     rw [if_pos (by omega)]
    rw [if_neg a2]
    rw [hj]
    by_cases a3 : j % 8 < k
    ·rw [if_pos a3, if_pos (by omega)]
    rw [if_neg a3, if_neg (by omega)]
   case measure => simp [intOf]; omega
  have hend : ∀ i, i < 16 → m i = mkF f i := fun i hi => by
   rw [HM.out i hi]
   by_cases a3 : i % 8 < k
   ·rw [if_pos a3]
   rw [if_neg a3]; unfold mkF; rw [if_neg (by omega)]
  go_wp2_with (first
   | (with_reducible refine wpl_load rfl 27 _ rfl _ rfl 27 _ hb1 16 5 Tryd.underlying27 (i16' _) ?_)
   | (with_reducible refine wpl_store rfl 27 _ _ rfl _ _ rfl rfl 27 _ hb3 (i16' _) (by simp [row_size]) (one_b8 _ _) ?_))
  exact ret_row Tryd.results34 rfl (w.heap.size + 1) rfl 27 16 _ (hb3.setRow _) 5 Tryd.underlying27 i16 ⟨ret_agg hend, below_setRow' hB (by omega) _⟩
theorem info8d : (Tryd.prog.info? 5).map (fun i => (i.zero, i.size, i.bytes)) = some (some (.int .u8 0), 1, 1) := by kernel_rfl
theorem wpl_app_grow {ops : Array Oper} {rest : List Oper} {o : Oper} {a : Act} {w : World} {Q : Exit → Act → World → Prop} (hgd : o.guard = none) (p q : Operand) (ho : o.op = .call { callee := .builtin .append, args := #[p, q], argTypes := #[58, 58] }) (b : Addr) (n cap : Nat) (f : Nat → Nat) (hp : a.eval p = .slice (some b) n cap)
  (hf : ∀ i, i < n → w.cell? (b.add i) = some (.int .u8 ((f i : Nat) : Int))) (ad : Addr) (m c : Nat) (g : Nat → Nat) (hq : a.eval q = .slice (some ad) m c) (hR : ∀ i, i < m → w.cell? (ad.add i) = some (.int .u8 ((g i : Nat) : Int))) (hg : cap < n + m) (hn : n + m ≤ 1000000)
  (h : ∀ v' w', Own w' w.heap.size 5 1 v' (n + m) (cat n f g) → Below w.heap.size w w' → wpList Tryd.prog ops Q rest (a.put o.dst v') w') : wpList Tryd.prog ops Q (o :: rest) a w := by
 obtain ⟨i, hi, hz0, hz1, hz2⟩ := info_parts info8d
 have H : ∀ (k : Nat) (f : Nat → Nat) (b : Addr), (∀ i, i < k → w.cell? (b.add i) = some (.int .u8 ((f i : Nat) : Int))) → ∀ j u, ((List.range k).map (b8 f))[j]? = some u → w.cell? (b.add j) = some u := fun k f b hf j u hu => by
  by_cases hj : j < k
  ·simp [hj] at hu
   subst hu
   exact hf j hj
  rw [List.getElem?_eq_none (by simp; omega)] at hu; cases hu
 obtain ⟨v', w', hr, h2, h3⟩ := run_append_arg_grows (P := Tryd.prog) (w := w) 58 o.type 5 i (.int .u8 0) 1 1 Tryd.underlying58 hi hz0 hz1 hz2 rfl (by omega) b n cap ((List.range n).map (b8 f)) (by simp) (H n f b hf) ad m c ((List.range m).map (b8 g)) (by simp) (H m g ad hR) hg (by unfold maxLen; omega) (by omega)
 refine wpList_plain hgd fun _ hK => ?_
 unfold Oper.wp execOp
 simp only [ho, resolve, invoke, builtin, Sem.run_bind, Sem.run_pure, Result.andThen_ok, List.map_toArray, List.map_cons, List.map_nil, hp, hq, hr]
 refine hK _ _ (h v' w' ?_ ((Below.refl w.heap.size w).grown h3 (Nat.le_refl _) (fun k hk => by cases hk)))
 unfold Own
 rw [Nat.mul_one, ← cat_list]
 simpa using h2
set_option maxRecDepth 100000 in
set_option maxHeartbeats 2000000 in
theorem joined_any (f g : Nat → Nat) (w : World) : Calls Tryd.prog 32 #[.agg (row 8 (b8 f)), .agg (row 8 (b8 g))] w fun e w' => e = .returned (.agg (row 16 (b8 (cat 8 f g)))) ∧ Below w.heap.size w w' := by
 have hb1 : Blk (((w.alloc (.cells (row 8 (b8 f)) 57)).alloc (.cells (row 8 (b8 g)) 57)).alloc (.cells (row 16 (b8 fun _ => 0)) 27)).drew w.heap.size 57 (row 8 (b8 f)) := ((Blk.fresh _ _ _).alloc _).alloc _
 have hb2 : Blk (((w.alloc (.cells (row 8 (b8 f)) 57)).alloc (.cells (row 8 (b8 g)) 57)).alloc (.cells (row 16 (b8 fun _ => 0)) 27)).drew (w.heap.size + 1) 57 (row 8 (b8 g)) := (Des.two_new _ _ _ _).alloc _
 have hb3 : Blk (((w.alloc (.cells (row 8 (b8 f)) 57)).alloc (.cells (row 8 (b8 g)) 57)).alloc (.cells (row 16 (b8 fun _ => 0)) 27)).drew (w.heap.size + 1 + 1) 27 (row 16 (b8 fun _ => 0)) := Blk.drew (by simpa using Blk.fresh ((w.alloc (.cells (row 8 (b8 f)) 57)).alloc (.cells (row 8 (b8 g)) 57)) 27 (row 16 (b8 fun _ => 0)))
 have hB : Below w.heap.size w (((w.alloc (.cells (row 8 (b8 f)) 57)).alloc (.cells (row 8 (b8 g)) 57)).alloc (.cells (row 16 (b8 fun _ => 0)) 27)).drew := ((((Below.refl _ _).alloc (Nat.le_refl _) _).alloc (by simp) _).alloc (by simp; omega) _).drew
 go_enter Tryd.func32, Tryd.ntmps32
 go_wp2_with (first | (with_reducible refine wpl_alloc rfl 27 rfl _ z16 ?_))
 refine wp_region_still_tail 2 (by kernel_rfl) (by kernel_rfl) ?_
 simp only [List.take_succ_cons, List.take_zero, List.drop_succ_cons, List.drop_zero]
 change wpStill _ _ (((w.alloc (.cells (row 8 (b8 f)) 57)).alloc (.cells (row 8 (b8 g)) 57)).alloc (.cells (row 16 (b8 fun _ => 0)) 27)).drew (fun a' => wpList _ _ _ _ a' (((w.alloc (.cells (row 8 (b8 f)) 57)).alloc (.cells (row 8 (b8 g)) 57)).alloc (.cells (row 16 (b8 fun _ => 0)) 27)).drew) _ _
 generalize (((w.alloc (.cells (row 8 (b8 f)) 57)).alloc (.cells (row 8 (b8 g)) 57)).alloc (.cells (row 16 (b8 fun _ => 0)) 27)).drew = w2 at *
 repeat still_step
 refine wpStill_nil ?_
 obtain ⟨ad1, h1, -, hc1⟩ := hb1.reads (by omega)
 obtain ⟨ad2, h2, -, hc2⟩ := hb2.reads (by omega)
 cases h1
 cases h2
 refine wpl_app_grow rfl _ _ rfl ⟨w.heap.size, 0, none⟩ 8 8 f rfl hc1 ⟨w.heap.size + 1, 0, none⟩ 8 8 g rfl hc2 (by omega) (by omega) (fun v' w' ho hB' => ?_)
 have hb3' := hb3.below hB' hb3.lt
 have hBe := hB.trans (hB'.mono hB.size)
 rcases ho.form with ⟨-, h0⟩ | ⟨gx, cx, cur, rfl, -, -, hcx, -, -, -⟩
 ·omega
 have hr := ho.reads
 obtain ⟨ad3, h3, -, hc3⟩ := hr (by omega)
 cases h3
 have hc3' : ∀ i, i < 16 → w'.cell? ((⟨gx, 0, none⟩ : Addr).add i) = some (.int .u8 ((cat 8 f g i : Nat) : Int)) := hc3
 clear hb1 hb2 hb3 hB hc1 hc2 ho hr hB'
 (try simp only [Act.put,zzd,zze,zzf])
 refine wpl_val rfl _ (Des.exec_arr 27 _ rfl _ _ _ rfl 16 5 Tryd.underlying27 (by omega)) ?_
 go_wp2_with (first
  | (with_reducible refine wpl_val rfl _ (Des.exec_loadR 27 _ rfl ⟨gx, 0, none⟩ rfl 16 _ hc3' 5 Tryd.underlying27 i16) ?_)
  | (with_reducible refine wpl_store rfl 27 _ _ rfl _ _ rfl rfl 27 _ hb3' (i16' _) (by simp [row_size]) (one_b8 _ _) ?_))
 exact ret_row Tryd.results32 rfl (w.heap.size + 1 + 1) rfl 27 16 _ (hb3'.setRow _) 5 Tryd.underlying27 i16 ⟨rfl, below_setRow' hBe (by omega) _⟩
end Go.Proofs.YtinejbjndpdcmaaDoor.Dk
