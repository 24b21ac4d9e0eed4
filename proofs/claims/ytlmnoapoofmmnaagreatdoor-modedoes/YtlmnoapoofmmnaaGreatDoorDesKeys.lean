/-
 What des.threeKeys returns: a contract over the loaded program.
-/
import Derived.Test.YtlmnoapoofmmnaaGreatDoorConcat
import Derived.Test.YtlmnoapoofmmnaaGreatDoorDesBlock
namespace Go.Proofs.YtlmnoapoofmmnaaGreatDoor.Des
open Go.ChangeShapes Go.WideShapes Go.ChangeAt Go.RowKit Mem
section
variable {P : Program} {o : Oper} {a : Act} {w : World}
theorem exec_loadR (ty : TypeId) (x : Operand) (ho : o.op = .load ty x) (p : Addr) (hx : a.eval x = .pointer (some p)) (n : Nat) (f : Nat → Nat) (hc : ∀ i, i < n → w.cell? (p.add i) = some (.int .u8 ((f i : Nat) : Int)))
  (e : TypeId) (hu : P.underlying ty = some (.array n e)) (hi : (P.info? ty).map (·.size) = some n) : (execOp a.eval o).run P w = .ok (.value (.agg (row n (b8 f)))) w := by
 have h := run_loadCells (P := P) w p n (b8 f) hc
 have e1 : ((List.range n).map (b8 f)).toArray = row n (b8 f) := by
  apply row_of (by simp)
  intro i hi
  simp [hi, b8]
 rw [e1] at h
 unfold execOp
 simp [ho, hx, Instr.loadAt, Instr.sureAddr, loadVar, isAgg, run_underlying hu, run_size hi, h]
theorem exec_arr (ty : TypeId) (x : Operand) (ho : o.op = .sliceToArrayPointer ty x) (p : Addr) (L c : Nat) (hx : a.eval x = .slice (some p) L c) (n : Nat) (e : TypeId) (hu : P.underlying ty = some (.array n e)) (hL : n ≤ L) :
  (execOp a.eval o).run P w = .ok (.value (.pointer (some p))) w := by
 unfold execOp
 simp [ho, hx, Instr.arrayAt, run_underlying hu, show ¬ L < n by omega]
end
def three (L : Nat) (key : Nat → Nat) : Nat → Nat := fun i => tkey L key (i / 8) (i % 8)
theorem z83 : (Tryz.prog.info? 154).map (·.zero) = some (some (.agg (row 24 (b8 fun _ => 0)))) := by kernel_rfl
theorem i83 : (Tryz.prog.info? 154).map (·.size) = some 24 := by kernel_rfl
theorem i83' (f : Nat → Value) : (Tryz.prog.info? 154).map (·.size) = some (row 24 f).size := by rw [row_size]; exact i83
theorem built83 (f0 f1 f2 : Nat → Nat) : Tryz.prog.built 154 [(0, .agg (row 8 (b8 f0))), (1, .agg (row 8 (b8 f1))), (2, .agg (row 8 (b8 f2)))] = some (row 24 (b8 fun i => if i < 8 then f0 i else if i < 16 then f1 (i - 8) else f2 (i - 16))) := by kernel_rfl
theorem add_off (a : Addr) (k i : Nat) : (⟨a.block, a.off + (k + 1), none⟩ : Addr).add i = (a.add (k + 1)).add i := by simp [Addr.add]
theorem exec_build {P : Program} {o : Oper} {a : Act} {w : World} (ty : TypeId) (l : List (Nat × Operand)) (ho : o.op = .build ty l.toArray) (cs : Array Value) (hb : P.built ty (l.map fun p => (p.1, a.eval p.2)) = some cs) :
  (execOp a.eval o).run P w = .ok (.value (.agg cs)) w := by
 have e := run_build (P := P) w ty (l.map fun p => (p.1, a.eval p.2)).toArray cs hb
 unfold execOp
 simp only [ho, List.map_toArray, e, Sem.run_bind, Sem.run_pure, Result.andThen_ok]
theorem wps_build {P : Program} {ops : Array Oper} {rest : List Oper} {o : Oper} {a : Act} {w : World} {Q : Act → Prop} (hgd : o.guard = none) (ty : TypeId) (l : List (Nat × Operand)) (ho : o.op = .build ty l.toArray) (cs : Array Value) (hb : P.built ty (l.map fun p => (p.1, a.eval p.2)) = some cs)
  (h : wpStill P ops w Q rest (a.put o.dst (.agg cs))) : wpStill P ops w Q (o :: rest) a := wps_val hgd _ (exec_build ty l ho cs hb) h
theorem ret_row_tmp2 {P : Program} {fn : Func} {p q : Tmp} {ty : TypeId} {R : Ending → World → Prop} {a : Act} {w : World} (h : fn.results = #[.cell p ty, .tmp q]) (hd : a.defers = []) (g : Nat) (hp : a.tmps.getD p undef = .pointer (some ⟨g, 0, none⟩)) (v : Value) (hq : a.tmps.getD q undef = v)
  (t : TypeId) (n : Nat) (c : Nat → Value) (hg : Blk w g t (row n c)) (m : Nat) (e : TypeId) (hu : P.underlying ty = some (.array m e)) (hi : (P.info? ty).map (·.size) = some n) (hR : R (.returned (.tuple #[.agg (row n c), v])) w) : bodyPost P fn R .ret a w := by
 refine bodyPost_ret ?_ hd hR
 have hl := run_loadVar_row (P := P) w g t ty (row n c) (0, 0) _ hg hu rfl (by rw [row_size]; exact hi)
 have hp' : a.tmps[p]?.getD undef = .pointer (some ⟨g, 0, none⟩) := by simpa using hp
 have hq' : a.tmps[q]?.getD undef = v := by simpa using hq
 simp [results, h, hp', hq', asAddr, hl]
theorem three_of24 (key : Nat → Nat) (i : Nat) (hi : i < 24) : (if i < 8 then key i else if i < 16 then key (8 + (i - 8)) else key (16 + (i - 16))) = three 24 key i := by
 unfold three tkey
 simp only [show ¬ 24 = 8 by omega, show ¬ 24 = 16 by omega, if_false, show 8 * (i / 8) + i % 8 = i by omega]
 by_cases h : i < 8
 ·rw [if_pos h]
 by_cases h2 : i < 16
 ·rw [if_neg h, if_pos h2, show 8 + (i - 8) = i by omega]
 rw [if_neg h, if_neg h2, show 16 + (i - 16) = i by omega]
set_option maxRecDepth 100000 in
set_option maxHeartbeats 2000000 in
theorem three24 (A : Option Addr) (c : Nat) (key : Nat → Nat) (w : World) (hc : 24 ≤ c) (hR : Reads w w.heap.size A 24 key) :
  Calls Tryz.prog 93 #[.slice A 24 c] w fun e w' => e = .returned (.tuple #[.agg (row 24 (b8 (three 24 key))), .bool true]) ∧ Below w.heap.size w w' := by
 obtain ⟨ad, rfl, had, hcell⟩ := hR (by omega)
 have hbW := Blk.fresh w 154 (row 24 (b8 fun _ => 0))
 have hBW : Below w.heap.size w (w.alloc (.cells (row 24 (b8 fun _ => 0)) 154)) := (Below.refl _ _).alloc (Nat.le_refl _) _
 have HC : Hid (∀ i, i < 24 → (w.alloc (.cells (row 24 (b8 fun _ => 0)) 154)).cell? (ad.add i) = some (.int .u8 ((key i : Nat) : Int))) := hid (fun i hi => (hBW.cell (by rw [add_block]; exact had)).trans (hcell i hi))
 clear hcell hR
 go_enter Tryz.func93, Tryz.ntmps93
 go_wp2_with (with_reducible refine wpl_alloc rfl 154 rfl _ z83 ?_)
 generalize w.alloc (.cells (row 24 (b8 fun _ => 0)) 154) = w1 at *
 have t8 : (8 : Int) ≤ (c : Int) := by omega
 have t16 : (16 : Int) ≤ (c : Int) := by omega
 have t24 : (24 : Int) ≤ (c : Int) := by omega
 have n8 : ¬ c = 8 := by omega
 have n16 : ¬ c = 16 := by omega
 refine wp_region_still_tail 13 (by kernel_rfl) (by kernel_rfl) ?_
 simp only [List.take_succ_cons, List.take_zero, List.drop_succ_cons, List.drop_zero]
 change wpStill _ _ w1.drew (fun a' => wpList _ _ _ _ a' w1.drew) _ _
 have hbz := hbW.drew
 have hBz := hBW.drew
 have HCz : Hid (∀ i, i < 24 → w1.drew.cell? (ad.add i) = some (.int .u8 ((key i : Nat) : Int))) := hid (fun i hi => HC.out i hi)
 have hl0 := fun i (hi : i < 8) => HCz.out i (by omega)
 have hl1 : ∀ i, i < 8 → w1.drew.cell? ((⟨ad.block, ad.off + 8, none⟩ : Addr).add i) = some (.int .u8 ((key (8 + i) : Nat) : Int)) := fun i hi => by rw [add_off, add_add]; exact HCz.out _ (by omega)
 have hl2 : ∀ i, i < 8 → w1.drew.cell? ((⟨ad.block, ad.off + 16, none⟩ : Addr).add i) = some (.int .u8 ((key (16 + i) : Nat) : Int)) := fun i hi => by rw [add_off, add_add]; exact HCz.out _ (by omega)
 have Hl0 := hid hl0
 have Hl1 := hid hl1
 have Hl2 := hid hl2
 clear hbW hBW HC HCz hl0 hl1 hl2
 generalize w1.drew = wz at *
 repeat (first
  | (with_reducible refine wps_val rfl _ (exec_arr 134 _ rfl _ _ _ rfl 8 5 Tryz.underlying134 (by omega)) ?_)
  | (with_reducible refine wps_val rfl _ (exec_loadR 134 _ rfl ad rfl 8 _ Hl0.out 5 Tryz.underlying134 i8a) ?_)
  | (with_reducible refine wps_val rfl _ (exec_loadR 134 _ rfl ⟨ad.block, ad.off + 8, none⟩ rfl 8 _ Hl1.out 5 Tryz.underlying134 i8a) ?_)
  | (with_reducible refine wps_val rfl _ (exec_loadR 134 _ rfl ⟨ad.block, ad.off + 16, none⟩ rfl 8 _ Hl2.out 5 Tryz.underlying134 i8a) ?_)
  | ((with_reducible refine wps_build rfl 154 _ rfl (row 24 (b8 fun i => if i < 8 then key i else if i < 16 then key (8 + (i - 8)) else key (16 + (i - 16)))) ?_ ?_); exact built83 key (fun i => key (8 + i)) (fun i => key (16 + i)))
  | still_step)
 refine wpStill_nil ?_
 go_wp2_with (with_reducible refine wpl_store rfl 154 _ _ rfl _ _ rfl rfl 154 _ hbz (i83' _) (by simp [row_size]) (one_b8 _ _) ?_)
 exact ret_row_tmp2 Tryz.results93 rfl w.heap.size rfl (.bool true) rfl 154 24 _ (hbz.setRow _) 3 134 Tryz.underlying154 i83 ⟨by rw [row_b8_ext (g := three 24 key) (fun i hi => three_of24 key i hi)], below_setRow' hBz (Nat.le_refl _) _⟩
theorem three_of16 (key : Nat → Nat) (i : Nat) (hi : i < 24) : (if i < 8 then cat 16 key key i else if i < 16 then cat 16 key key (8 + (i - 8)) else cat 16 key key (16 + (i - 16))) = three 16 key i := by
 unfold three tkey cat
 simp only [show ¬ 16 = 8 by omega, if_true, if_false, show 8 * (i / 8) + i % 8 = i by omega]
 by_cases h : i < 8
 ·rw [if_pos h, if_pos (by omega), show i % 16 = i by omega]
 by_cases h2 : i < 16
 ·rw [if_neg h, if_pos h2, if_pos (by omega), show 8 + (i - 8) = i by omega, show i % 16 = i by omega]
 rw [if_neg h, if_neg h2, if_neg (by omega), show 16 + (i - 16) - 16 = i % 16 by omega]
theorem three_of8 (key : Nat → Nat) (i : Nat) (hi : i < 24) : (if i < 8 then cat 16 (cat 8 key key) (cat 8 key key) i else if i < 16 then cat 16 (cat 8 key key) (cat 8 key key) (8 + (i - 8)) else cat 16 (cat 8 key key) (cat 8 key key) (16 + (i - 16))) = three 8 key i := by
 unfold three tkey cat
 simp only [if_true]
 by_cases h : i < 8
 ·rw [if_pos h, if_pos (by omega), if_pos (by omega), show i % 8 = i by omega]
 by_cases h2 : i < 16
 ·rw [if_neg h, if_pos h2, if_pos (by omega), if_neg (by omega), show 8 + (i - 8) - 8 = i % 8 by omega]
 rw [if_neg h, if_neg h2, if_neg (by omega), if_pos (by omega), show 16 + (i - 16) - 16 = i % 8 by omega]
theorem wpl_bs2 {P : Program} {ops : Array Oper} {rest : List Oper} {o : Oper} {a : Act} {w : World} {Q : Exit → Act → World → Prop} (hgd : o.guard = none) (t : TypeId) (x y : Operand) (ho : o.op = .buildSlice t 2 #[(0, x), (1, y)]) (v u : Value) (hx : a.eval x = v) (hy : a.eval y = u) (e : TypeId)
  (hr : (Instr.buildSlice t 2 #[(0, v), (1, u)]).run P w = .ok (.slice (some ⟨w.heap.size, 0, none⟩) 2 2) (w.alloc (.cells #[v, u] e)))
  (h : wpList P ops Q rest (a.put o.dst (.slice (some ⟨w.heap.size, 0, none⟩) 2 2)) (w.alloc (.cells #[v, u] e))) : wpList P ops Q (o :: rest) a w := by
 refine wpList_plain hgd fun _ hK => ?_
 unfold Oper.wp execOp
 simp only [ho, List.map_toArray, List.map_cons, List.map_nil, hx, hy, hr, Sem.run_bind, Sem.run_pure, Result.andThen_ok]
 exact hK _ _ h
theorem bs2 (A B : Option Addr) (n m c d : Nat) (w : World) : (Instr.buildSlice 179 2 #[(0, .slice A n c), (1, .slice B m d)]).run Tryz.prog w = .ok (.slice (some ⟨w.heap.size, 0, none⟩) 2 2) (w.alloc (.cells #[.slice A n c, .slice B m d] 22)) := by kernel_rfl
set_option maxRecDepth 100000 in
set_option maxHeartbeats 2000000 in
theorem three16 (A : Option Addr) (c : Nat) (key : Nat → Nat) (w : World) (hc : 16 ≤ c) (hR : Reads w w.heap.size A 16 key) :
  Calls Tryz.prog 93 #[.slice A 16 c] w fun e w' => e = .returned (.tuple #[.agg (row 24 (b8 (three 16 key))), .bool true]) ∧ Below w.heap.size w w' := by
 have hb1 := Blk.fresh w 154 (row 24 (b8 fun _ => 0))
 have hB1 : Below w.heap.size w (w.alloc (.cells (row 24 (b8 fun _ => 0)) 154)) := (Below.refl _ _).alloc (Nat.le_refl _) _
 have hR1 := (hR.below hB1).more hB1.size
 have t8 : (8 : Int) ≤ (c : Int) := by omega
 obtain ⟨ad, rfl, had, hcell⟩ := hR (by omega)
 have HR1 := hid hR1
 clear hR hcell hR1
 go_enter Tryz.func93, Tryz.ntmps93
 go_wp2_with (first
  | (with_reducible refine wpl_alloc rfl 154 rfl _ z83 ?_)
  | (with_reducible refine wpl_bs2 rfl 179 _ _ rfl (.slice (some ad) 16 c) (.slice (some ad) 8 c) rfl rfl 22 (bs2 _ _ _ _ _ _ _) ?_))
 have hbk : Blk ((w.alloc (.cells (row 24 (b8 fun _ => 0)) 154)).alloc (.cells #[.slice (some ad) 16 c, .slice (some ad) 8 c] 22)) (w.heap.size + 1) 22 #[.slice (some ad) 16 c, .slice (some ad) 8 c] := by simpa using Blk.fresh (w.alloc (.cells (row 24 (b8 fun _ => 0)) 154)) 22 #[.slice (some ad) 16 c, .slice (some ad) 8 c]
 have hb2 := hb1.alloc (.cells #[.slice (some ad) 16 c, .slice (some ad) 8 c] 22)
 have hB2 := hB1.alloc hB1.size (.cells #[.slice (some ad) 16 c, .slice (some ad) 8 c] 22)
 have hR2 := (HR1.out.below ((Below.refl _ (w.alloc (.cells (row 24 (b8 fun _ => 0)) 154))).alloc (Nat.le_refl _) (.cells #[.slice (some ad) 16 c, .slice (some ad) 8 c] 22))).more (B' := ((w.alloc (.cells (row 24 (b8 fun _ => 0)) 154)).alloc (.cells #[.slice (some ad) 16 c, .slice (some ad) 8 c] 22)).heap.size) (by simp)
 refine (concat_any _ _ _ 16 8 _ _ key key (by omega) (by omega) (by omega) _ hbk hR2 (hR2.less (by omega))).mono ?_
 rintro e w3 ⟨A2, c2, rfl, hc2, hR3, hB3⟩
 have hbW := hb2.below hB3 hb2.lt
 have hBW := hB2.trans (hB3.mono hB2.size)
 clear hb1 hB1 hbk hb2 hB2 hR2 HR1
 clear hB3
 obtain ⟨ad, rfl, had, hcell⟩ := hR3 (by omega)
 have HC := hid (fun i (hi : i < 24) => hcell i (by omega))
 clear hcell hR3 t8
 go_wp2_with fail
 have t8 : (8 : Int) ≤ (c2 : Int) := by omega
 have t16 : (16 : Int) ≤ (c2 : Int) := by omega
 have t24 : (24 : Int) ≤ (c2 : Int) := by omega
 have n8 : ¬ c2 = 8 := by omega
 have n16 : ¬ c2 = 16 := by omega
 refine wp_region_still_tail 13 (by kernel_rfl) (by kernel_rfl) ?_
 simp only [List.take_succ_cons, List.take_zero, List.drop_succ_cons, List.drop_zero]
 change wpStill _ _ w3.drew (fun a' => wpList _ _ _ _ a' w3.drew) _ _
 have hbz := hbW.drew
 have hBz := hBW.drew
 have HCz : Hid (∀ i, i < 24 → w3.drew.cell? (ad.add i) = some (.int .u8 (((cat 16 key key) i : Nat) : Int))) := hid (fun i hi => HC.out i hi)
 have hl0 := fun i (hi : i < 8) => HCz.out i (by omega)
 have hl1 : ∀ i, i < 8 → w3.drew.cell? ((⟨ad.block, ad.off + 8, none⟩ : Addr).add i) = some (.int .u8 (((cat 16 key key) (8 + i) : Nat) : Int)) := fun i hi => by rw [add_off, add_add]; exact HCz.out _ (by omega)
 have hl2 : ∀ i, i < 8 → w3.drew.cell? ((⟨ad.block, ad.off + 16, none⟩ : Addr).add i) = some (.int .u8 (((cat 16 key key) (16 + i) : Nat) : Int)) := fun i hi => by rw [add_off, add_add]; exact HCz.out _ (by omega)
 have Hl0 := hid hl0
 have Hl1 := hid hl1
 have Hl2 := hid hl2
 clear hbW hBW HC HCz hl0 hl1 hl2
 generalize w3.drew = wz at *
 repeat (first
  | (with_reducible refine wps_val rfl _ (exec_arr 134 _ rfl _ _ _ rfl 8 5 Tryz.underlying134 (by omega)) ?_)
  | (with_reducible refine wps_val rfl _ (exec_loadR 134 _ rfl ad rfl 8 _ Hl0.out 5 Tryz.underlying134 i8a) ?_)
  | (with_reducible refine wps_val rfl _ (exec_loadR 134 _ rfl ⟨ad.block, ad.off + 8, none⟩ rfl 8 _ Hl1.out 5 Tryz.underlying134 i8a) ?_)
  | (with_reducible refine wps_val rfl _ (exec_loadR 134 _ rfl ⟨ad.block, ad.off + 16, none⟩ rfl 8 _ Hl2.out 5 Tryz.underlying134 i8a) ?_)
  | ((with_reducible refine wps_build rfl 154 _ rfl (row 24 (b8 fun i => if i < 8 then (cat 16 key key) i else if i < 16 then (cat 16 key key) (8 + (i - 8)) else (cat 16 key key) (16 + (i - 16)))) ?_ ?_); exact built83 (cat 16 key key) (fun i => (cat 16 key key) (8 + i)) (fun i => (cat 16 key key) (16 + i)))
  | still_step)
 refine wpStill_nil ?_
 go_wp2_with (with_reducible refine wpl_store rfl 154 _ _ rfl _ _ rfl rfl 154 _ hbz (i83' _) (by simp [row_size]) (one_b8 _ _) ?_)
 exact ret_row_tmp2 Tryz.results93 rfl w.heap.size rfl (.bool true) rfl 154 24 _ (hbz.setRow _) 3 134 Tryz.underlying154 i83 ⟨by rw [row_b8_ext (g := three 16 key) (fun i hi => three_of16 key i hi)], below_setRow' hBz (Nat.le_refl _) _⟩
set_option maxRecDepth 100000 in
set_option maxHeartbeats 2000000 in
theorem three8 (A : Option Addr) (c : Nat) (key : Nat → Nat) (w : World) (hR : Reads w w.heap.size A 8 key) :
  Calls Tryz.prog 93 #[.slice A 8 c] w fun e w' => e = .returned (.tuple #[.agg (row 24 (b8 (three 8 key))), .bool true]) ∧ Below w.heap.size w w' := by
 have hb1 := Blk.fresh w 154 (row 24 (b8 fun _ => 0))
 have hB1 : Below w.heap.size w (w.alloc (.cells (row 24 (b8 fun _ => 0)) 154)) := (Below.refl _ _).alloc (Nat.le_refl _) _
 have hR1 := (hR.below hB1).more hB1.size
 obtain ⟨ad, rfl, had, hcell⟩ := hR (by omega)
 have HR1 := hid hR1
 clear hR hcell hR1
 go_enter Tryz.func93, Tryz.ntmps93
 go_wp2_with (first
  | (with_reducible refine wpl_alloc rfl 154 rfl _ z83 ?_)
  | (with_reducible refine wpl_bs2 rfl 179 _ _ rfl (.slice (some ad) 8 c) (.slice (some ad) 8 c) rfl rfl 22 (bs2 _ _ _ _ _ _ _) ?_))
 have hbk : Blk ((w.alloc (.cells (row 24 (b8 fun _ => 0)) 154)).alloc (.cells #[.slice (some ad) 8 c, .slice (some ad) 8 c] 22)) (w.heap.size + 1) 22 #[.slice (some ad) 8 c, .slice (some ad) 8 c] := by simpa using Blk.fresh (w.alloc (.cells (row 24 (b8 fun _ => 0)) 154)) 22 #[.slice (some ad) 8 c, .slice (some ad) 8 c]
 have hb2 := hb1.alloc (.cells #[.slice (some ad) 8 c, .slice (some ad) 8 c] 22)
 have hB2 := hB1.alloc hB1.size (.cells #[.slice (some ad) 8 c, .slice (some ad) 8 c] 22)
 have hR2 := (HR1.out.below ((Below.refl _ (w.alloc (.cells (row 24 (b8 fun _ => 0)) 154))).alloc (Nat.le_refl _) (.cells #[.slice (some ad) 8 c, .slice (some ad) 8 c] 22))).more (B' := ((w.alloc (.cells (row 24 (b8 fun _ => 0)) 154)).alloc (.cells #[.slice (some ad) 8 c, .slice (some ad) 8 c] 22)).heap.size) (by simp)
 refine (concat_any _ _ _ 8 8 _ _ key key (by omega) (by omega) (by omega) _ hbk hR2 hR2).mono ?_
 rintro e w3 ⟨A2, c2, rfl, hc2, hR3, hB3⟩
 have hb3 := hb2.below hB3 hb2.lt
 have hB4 := hB2.trans (hB3.mono hB2.size)
 clear hb1 hB1 hbk hb2 hB2 hR2 HR1
 clear hB3 had
 obtain ⟨ad2, rfl, had2, hcell2⟩ := hR3 (by omega)
 have HR3 := hid hR3
 clear hcell2 hR3
 have t8 : (8 : Int) ≤ (c2 : Int) := by omega
 go_wp2_with (with_reducible refine wpl_bs2 rfl 179 _ _ rfl (.slice (some ad2) 16 c2) (.slice (some ad2) 8 c2) rfl rfl 22 (bs2 _ _ _ _ _ _ _) ?_)
 have hbk := Blk.fresh w3 22 #[.slice (some ad2) 16 c2, .slice (some ad2) 8 c2]
 have hb5 := hb3.alloc (.cells #[.slice (some ad2) 16 c2, .slice (some ad2) 8 c2] 22)
 have hB5 := hB4.alloc hB4.size (.cells #[.slice (some ad2) 16 c2, .slice (some ad2) 8 c2] 22)
 have hR5 := (HR3.out.below ((Below.refl _ w3).alloc (Nat.le_refl _) (.cells #[.slice (some ad2) 16 c2, .slice (some ad2) 8 c2] 22))).more (B' := (w3.alloc (.cells #[.slice (some ad2) 16 c2, .slice (some ad2) 8 c2] 22)).heap.size) (by simp)
 refine (concat_any _ _ _ 16 8 _ _ (cat 8 key key) (cat 8 key key) (by omega) (by omega) (by omega) _ hbk hR5 (hR5.less (by omega))).mono ?_
 rintro e w5 ⟨A5, c5, rfl, hc5, hR6, hB6⟩
 have hbW := hb5.below hB6 hb5.lt
 have hBW := hB5.trans (hB6.mono hB5.size)
 clear hb3 hB4 hbk hb5 hB5 hR5 HR3 had2
 clear hB6
 obtain ⟨ad, rfl, had, hcell⟩ := hR6 (by omega)
 have HC := hid (fun i (hi : i < 24) => hcell i (by omega))
 clear hcell hR6 t8
 go_wp2_with fail
 have t8 : (8 : Int) ≤ (c5 : Int) := by omega
 have t16 : (16 : Int) ≤ (c5 : Int) := by omega
 have t24 : (24 : Int) ≤ (c5 : Int) := by omega
 have n8 : ¬ c5 = 8 := by omega
 have n16 : ¬ c5 = 16 := by omega
 refine wp_region_still_tail 13 (by kernel_rfl) (by kernel_rfl) ?_
 simp only [List.take_succ_cons, List.take_zero, List.drop_succ_cons, List.drop_zero]
 change wpStill _ _ w5.drew (fun a' => wpList _ _ _ _ a' w5.drew) _ _
 have hbz := hbW.drew
 have hBz := hBW.drew
 have HCz : Hid (∀ i, i < 24 → w5.drew.cell? (ad.add i) = some (.int .u8 (((cat 16 (cat 8 key key) (cat 8 key key)) i : Nat) : Int))) := hid (fun i hi => HC.out i hi)
 have hl0 := fun i (hi : i < 8) => HCz.out i (by omega)
 have hl1 : ∀ i, i < 8 → w5.drew.cell? ((⟨ad.block, ad.off + 8, none⟩ : Addr).add i) = some (.int .u8 (((cat 16 (cat 8 key key) (cat 8 key key)) (8 + i) : Nat) : Int)) := fun i hi => by rw [add_off, add_add]; exact HCz.out _ (by omega)
 have hl2 : ∀ i, i < 8 → w5.drew.cell? ((⟨ad.block, ad.off + 16, none⟩ : Addr).add i) = some (.int .u8 (((cat 16 (cat 8 key key) (cat 8 key key)) (16 + i) : Nat) : Int)) := fun i hi => by rw [add_off, add_add]; exact HCz.out _ (by omega)
 have Hl0 := hid hl0
 have Hl1 := hid hl1
 have Hl2 := hid hl2
 clear hbW hBW HC HCz hl0 hl1 hl2
 generalize w5.drew = wz at *
 repeat (first
  | (with_reducible refine wps_val rfl _ (exec_arr 134 _ rfl _ _ _ rfl 8 5 Tryz.underlying134 (by omega)) ?_)
  | (with_reducible refine wps_val rfl _ (exec_loadR 134 _ rfl ad rfl 8 _ Hl0.out 5 Tryz.underlying134 i8a) ?_)
  | (with_reducible refine wps_val rfl _ (exec_loadR 134 _ rfl ⟨ad.block, ad.off + 8, none⟩ rfl 8 _ Hl1.out 5 Tryz.underlying134 i8a) ?_)
  | (with_reducible refine wps_val rfl _ (exec_loadR 134 _ rfl ⟨ad.block, ad.off + 16, none⟩ rfl 8 _ Hl2.out 5 Tryz.underlying134 i8a) ?_)
  | ((with_reducible refine wps_build rfl 154 _ rfl (row 24 (b8 fun i => if i < 8 then (cat 16 (cat 8 key key) (cat 8 key key)) i else if i < 16 then (cat 16 (cat 8 key key) (cat 8 key key)) (8 + (i - 8)) else (cat 16 (cat 8 key key) (cat 8 key key)) (16 + (i - 16)))) ?_ ?_); exact built83 (cat 16 (cat 8 key key) (cat 8 key key)) (fun i => (cat 16 (cat 8 key key) (cat 8 key key)) (8 + i)) (fun i => (cat 16 (cat 8 key key) (cat 8 key key)) (16 + i)))
  | still_step)
 refine wpStill_nil ?_
 go_wp2_with (with_reducible refine wpl_store rfl 154 _ _ rfl _ _ rfl rfl 154 _ hbz (i83' _) (by simp [row_size]) (one_b8 _ _) ?_)
 exact ret_row_tmp2 Tryz.results93 rfl w.heap.size rfl (.bool true) rfl 154 24 _ (hbz.setRow _) 3 134 Tryz.underlying154 i83 ⟨by rw [row_b8_ext (g := three 8 key) (fun i hi => three_of8 key i hi)], below_setRow' hBz (Nat.le_refl _) _⟩
def IsTKey (L : Nat) : Prop := L = 8 ∨ L = 16 ∨ L = 24
theorem three_any (A : Option Addr) (L c : Nat) (hL : IsTKey L) (hc : L ≤ c) (key : Nat → Nat) (w : World) (hR : Reads w w.heap.size A L key) :
  Calls Tryz.prog 93 #[.slice A L c] w fun e w' => e = .returned (.tuple #[.agg (row 24 (b8 (three L key))), .bool true]) ∧ Below w.heap.size w w' := by
 rcases hL with rfl | rfl | rfl
 ·exact three8 A c key w hR
 ·exact three16 A c key w hc hR
 exact three24 A c key w hc hR
end Go.Proofs.YtlmnoapoofmmnaaGreatDoor.Des
