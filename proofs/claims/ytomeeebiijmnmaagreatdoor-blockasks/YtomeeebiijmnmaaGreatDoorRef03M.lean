/-
  What the document's own digit and mix of layer 3 return: contracts over the loaded program.
-/
import Derived.Test.YtomeeebiijmnmaaGreatDoorRef03K
import Derived.Test.YtomeeebiijmnmaaGreatDoorDesX
import Derived.Test.YtomeeebiijmnmaaGreatDoorMemX
namespace Go.Proofs.YtomeeebiijmnmaaGreatDoor.Des
open Go.ChangeShapes Go.WideShapes Go.ChangeAt Go.RowKit Mem
theorem digit_any (d : Nat) (hd : d < 16) (w : World) : Calls Tryz.prog 102 #[.int .u8 ((hexc d : Nat) : Int)] w fun e w' => e = .returned (.int .i64 (d : Nat)) ∧ w = w' := by
  have h1 := (hexc_ok d hd).1
  have h2 := (hexc_ok d hd).2
  generalize hexc d = c at *
  by_cases h : 97 ≤ c
  · rw [if_pos h] at h2
    have hdd : decide ((97 : Int) ≤ (c : Int)) = true := by simp; omega
    go_enter Tryz.func102, Tryz.ntmps102
    go_wp2
    go_ret
    exact ⟨ret_int (by omega), rfl⟩
  · rw [if_neg h] at h2
    have hdd : decide ((97 : Int) ≤ (c : Int)) = false := by simp; omega
    go_enter Tryz.func102, Tryz.ntmps102
    go_wp2
    go_ret
    exact ⟨ret_int (by omega), rfl⟩
/-- the six bits of a row, as bits: bit j (from 0 on) of row i -/
def sixF (h k : Nat → Nat) (i : Nat) : Nat → Nat := fun j => h ((4 * i + j + 31) % 32) ^^^ k (6 * i + j)
/-- what the boxes make, as bits -/
def boxF (h k : Nat → Nat) : Nat → Nat := fun t =>
  (boxes.getD (t / 4) []).getD (16 * (2 * sixF h k (t / 4) 0 + sixF h k (t / 4) 5) + (8 * sixF h k (t / 4) 1 + 4 * sixF h k (t / 4) 2 + 2 * sixF h k (t / 4) 3 + sixF h k (t / 4) 4)) 0 / 2 ^ (3 - t % 4) % 2
theorem bsS (w : World) : (Instr.buildSlice 168 8 #[(0, .string (bxs 0)), (1, .string (bxs 1)), (2, .string (bxs 2)), (3, .string (bxs 3)), (4, .string (bxs 4)), (5, .string (bxs 5)), (6, .string (bxs 6)), (7, .string (bxs 7))]).run Tryz.prog w = .ok (.slice (some ⟨w.heap.size, 0, none⟩) 8 8) (w.alloc (.cells (row 8 bxv) 9)) := by kernel_rfl
/-- a slice built of what is known -/
theorem wpl_bsl {P : Program} {ops : Array Oper} {rest : List Oper} {o : Oper} {a : Act} {w : World} {Q : Exit → Act → World → Prop} (hgd : o.guard = none) (t : TypeId) (n : Nat) (l : List (Nat × Operand)) (ho : o.op = .buildSlice t n l.toArray) (v : Value) (w' : World)
    (hr : (Instr.buildSlice t n (l.map fun p => (p.1, a.eval p.2)).toArray).run P w = .ok v w') (h : wpList P ops Q rest (a.put o.dst v) w') : wpList P ops Q (o :: rest) a w := by
  refine wpList_plain hgd fun _ hK => ?_
  unfold Oper.wp execOp
  simp only [ho, List.map_toArray, hr, Sem.run_bind, Sem.run_pure, Result.andThen_ok]
  exact hK _ _ h
/-- a string out of its cell -/
theorem wpl_ldstr {P : Program} {ops : Array Oper} {rest : List Oper} {o : Oper} {a : Act} {w : World} {Q : Exit → Act → World → Prop} (hgd : o.guard = none) (ty : TypeId) (x : Operand) (ho : o.op = .load ty x) (p : Addr) (hx : a.eval x = .pointer (some p)) (hu : P.underlying ty = some .string) (v : Value) (hv : w.cell? p = some v)
    (h : wpList P ops Q rest (a.put o.dst v) w) : wpList P ops Q (o :: rest) a w := by
  refine wpList_plain hgd fun _ hK => ?_
  have hr : (Instr.loadAt ty (.pointer (some p))).run P w = .ok v w := by
    simp [Instr.loadAt, Instr.sureAddr, loadVar, isAgg, Sem.run_bind, run_underlying hu, hv]
  unfold Oper.wp execOp
  simp only [ho, hx, hr, Sem.run_bind, Sem.run_pure, Result.andThen_ok]
  exact hK _ _ h
theorem wps_sl1 {P : Program} {ops : Array Oper} {rest : List Oper} {o : Oper} {a : Act} {w : World} {Q : Act → Prop} (hgd : o.guard = none) (ty : TypeId) (x ix : Operand) (ho : o.op = .indexAddr ty x ix) (ad : Addr) (n c : Nat) (hx : a.eval x = .slice (some ad) n c) (kd : IntKind) (z : Int) (hix : a.eval ix = .int kd z) (k : Nat) (hz : z = (k : Int))
    (e : TypeId) (hu : P.underlying ty = some (.slice e)) (hk : k < n) (hs : (P.info? e).map (·.size) = some 1) (h : wpStill P ops w Q rest (a.put o.dst (.pointer (some (ad.add k))))) : wpStill P ops w Q (o :: rest) a :=
  wps_val hgd _ (exec_sl1 ty x ix ho ad n c hx kd z hix k hz e hu hk hs) h
theorem row4i (X : Nat) (a b c d : Int) (ha : a = ((X / 8 % 2 : Nat) : Int)) (hb : b = ((X / 4 % 2 : Nat) : Int)) (hc : c = ((X / 2 % 2 : Nat) : Int)) (hd : d = ((X % 2 : Nat) : Int)) : #[Value.int .i64 a, .int .i64 b, .int .i64 c, .int .i64 d] = row 4 (iv .i64 fun t => X / 2 ^ (3 - t) % 2) := by
  subst ha; subst hb; subst hc; subst hd
  apply row_of (by rfl)
  intro i hi
  match i, hi with
  | 0, _ => rfl
  | 1, _ => rfl
  | 2, _ => rfl
  | 3, _ => simp [iv]
  | n + 4, h => omega
theorem sixF_lt {h k : Nat → Nat} (hh : ∀ i, i < 32 → h i < 2) (hk : ∀ i, i < 48 → k i < 2) (i j : Nat) (hi : i < 8) (hj : j < 6) : sixF h k i j < 2 :=
  Nat.xor_lt_two_pow (n := 1) (hh _ (by omega)) (hk _ (by omega))
theorem bs1 (x : Int) (w : World) : (Instr.buildSlice 63 1 #[(0, .int .i64 x)]).run Tryz.prog w = .ok (.slice (some ⟨w.heap.size, 0, none⟩) 1 1) (w.alloc (.cells #[.int .i64 x] 3)) := by kernel_rfl
theorem new_one (w : World) (v : Value) (t : TypeId) : ∀ i, i < 1 → (w.alloc (.cells #[v] t)).cell? ((⟨w.heap.size, 0, none⟩ : Addr).add i) = some v := fun i hi => by
  obtain rfl : i = 0 := by omega
  rw [add_zero_off]; exact (Blk.fresh w t #[v]).cell 0
theorem exec_rem {P : Program} {o : Oper} {a : Act} {w : World} (t : TypeId) (x y : Operand) (rt : TypeId) (ho : o.op = .binOp .rem t x y rt) (p q : Int) (hx : a.eval x = .int .i64 p) (hy : a.eval y = .int .i64 q) (hp : 0 ≤ p) (hq : 0 < q) (_hq2 : q < 9223372036854775808) : (execOp a.eval o).run P w = .ok (.value (.int .i64 (p % q))) w := by
  have hm : p.tmod q = p % q := Int.tmod_eq_emod_of_nonneg hp
  unfold execOp
  simp [ho, hx, hy, eqGuard, binOp, Op.intDiv, hm, show ¬ q = 0 by omega]
theorem exec_xor {P : Program} {o : Oper} {a : Act} {w : World} (t : TypeId) (x y : Operand) (rt : TypeId) (ho : o.op = .binOp .xor t x y rt) (p q : Int) (hx : a.eval x = .int .i64 p) (hy : a.eval y = .int .i64 q) (r : Int) (hr : bits .xor .i64 p q = r) : (execOp a.eval o).run P w = .ok (.value (.int .i64 r)) w := by
  have e : Op.intBits BinOp.xor IntKind.i64 p q = pure (.int .i64 (bits .xor .i64 p q)) := rfl
  unfold execOp
  simp [ho, hx, hy, eqGuard, binOp, e, hr]
theorem infoS : (Tryz.prog.info? 9).map (·.size) = some 1 := by kernel_rfl
set_option linter.unusedSimpArgs false in
set_option maxRecDepth 100000 in
set_option maxHeartbeats 4000000 in
theorem mix_any (A1 A2 : Option Addr) (c1 c2 : Nat) (h k : Nat → Nat) (hh : ∀ i, i < 32 → h i < 2) (hk : ∀ i, i < 48 → k i < 2) (w : World) (hL1 : Lst w 3 A1 32 (iv .i64 h)) (hL2 : Lst w 3 A2 48 (iv .i64 k)) :
    Calls Tryz.prog 82 #[.slice A1 32 c1, .slice A2 48 c2] w fun e w' => ∃ A' c', e = .returned (.slice A' 32 c') ∧ 32 ≤ c' ∧ Lst w' 3 A' 32 (iv .i64 fun t => boxF h k (tp t - 1)) ∧ Below w.heap.size w w' := by
  have Hh := hid hh
  have Hk := hid hk
  obtain ⟨a1, rfl, ha1⟩ := hL1.some
  obtain ⟨a2, rfl, ha2⟩ := hL2.some
  have HL1 := hid hL1
  have HL2 := hid hL2
  clear hh hk hL1 hL2
  have hb0 := Blk.fresh w 9 (row 8 bxv)
  have hB0 : Below w.heap.size w (w.alloc (.cells (row 8 bxv) 9)) := (Below.refl _ _).alloc (Nat.le_refl _) _
  go_enter Tryz.func82, Tryz.ntmps82
  go_wp2_with ((with_reducible refine wpl_bsl rfl 168 8 _ rfl (.slice (some ⟨w.heap.size, 0, none⟩) 8 8) (w.alloc (.cells (row 8 bxv) 9)) ?_ ?_); (kernel_rfl))
  generalize hw0 : w.alloc (.cells (row 8 bxv) 9) = w0 at *
  have hs0 : w.heap.size + 1 ≤ w0.heap.size := by rw [← hw0]; simp
  clear hw0
  go_loopw [6, 7] (fun v i wr => ∃ n : Nat, n ≤ 8 ∧ OwnV wr (w.heap.size + 1) 3 v (4 * n) (iv .i64 (boxF h k)) ∧ i = .int .i64 n ∧ Blk wr w.heap.size 9 (row 8 bxv) ∧ Below w.heap.size w wr ∧ w.heap.size + 1 ≤ wr.heap.size) (fun _ i _ => 8 - (intOf i).toNat)
  case atStart => exact ⟨0, by omega, OwnV.nil _ _ _ _, rfl, hb0, hB0, hs0⟩
  case round =>
    clear hb0 hB0 hs0
    obtain ⟨n, hn, ho, rfl, hb, hB, hs⟩ := hrel
    rename World => wo
    by_cases hlt : n < 8
    · go_wp2_with fail
      have Hho := hid ho
      have Hhb := hid hb
      have HhB := hid hB
      clear ho hb hB
      generalize Value.bool (decide ((n : Int) < 8)) = vb at *
      go_loopw [8, 9] (fun v j wr => ∃ q : Nat, q ≤ 6 ∧ OwnV wr wo.heap.size 3 v q (iv .i64 (sixF h k n)) ∧ j = .int .i64 ((q : Int) + 1) ∧ Below wo.heap.size wo wr) (fun _ j _ => 7 - (intOf j).toNat)
      case atStart => exact ⟨0, by omega, OwnV.nil _ _ _ _, rfl, Below.refl _ _⟩
      case round =>
        obtain ⟨q, hq, ho6, rfl, hB6⟩ := hrel
        have hBw := HhB.out.trans (hB6.mono HhB.out.size)
        by_cases hlt2 : q < 6
        · have C1 : Hid (∀ W, Below wo.heap.size wr W → W.cell? (a1.add ((4 * n + q + 31) % 32)) = some (.int .i64 ((h ((4 * n + q + 31) % 32) : Nat) : Int))) := hid (fun W hW => ((hBw.trans (hW.mono HhB.out.size)).cell (by rw [add_block]; exact ha1)).trans (HL1.out.at _ (by omega)))
          have C2 : Hid (∀ W, Below wo.heap.size wr W → W.cell? (a2.add (6 * n + q)) = some (.int .i64 ((k (6 * n + q) : Nat) : Int))) := hid (fun W hW => ((hBw.trans (hW.mono HhB.out.size)).cell (by rw [add_block]; exact ha2)).trans (HL2.out.at _ (by omega)))
          have i1 : (4 * n + q + 31) % 32 < 32 := by omega
          have i2 : 6 * n + q < 48 := by omega
          have HX : Hid (bits .xor .i64 ((h ((4 * n + q + 31) % 32) : Nat) : Int) ((k (6 * n + q) : Nat) : Int) = ((sixF h k n q : Nat) : Int)) := hid (i64_xor_nat _ _ (by have := Hh.out _ i1; omega) (by have := Hk.out _ i2; omega))
          go_wp2_with fail
          refine wp_region_held_drew (S := fun W => Below wo.heap.size wr W) (by kernel_rfl) (Below.refl _ _).drew (fun hS0 => ?_)
          refine wpAnyH_take (i := 0) (v := u8) rfl (by kernel_rfl) (by kernel_rfl) (by kernel_rfl) (fun _ _ _ h => h) (Or.inl ⟨rfl, fun _ _ => exec_move _ rfl _ rfl⟩) hS0 ?_
          (try simp only [Act.put, List.getElem_toArray, List.getElem_cons_zero, List.getElem_cons_succ, List.setIfInBounds_toArray, List.set_cons_zero, List.set_cons_succ])
          refine wpAnyH_take (i := 1) (v := .slice (some a1) 32 c1) rfl (by kernel_rfl) (by kernel_rfl) (by kernel_rfl) (fun _ _ _ h => h) (Or.inl ⟨rfl, fun _ _ => exec_move _ rfl _ rfl⟩) hS0 ?_
          (try simp only [Act.put, List.getElem_toArray, List.getElem_cons_zero, List.getElem_cons_succ, List.setIfInBounds_toArray, List.set_cons_zero, List.set_cons_succ])
          refine wpAnyH_take (i := 2) (v := .int .i64 (n : Int)) rfl (by kernel_rfl) (by kernel_rfl) (by kernel_rfl) (fun _ _ _ h => h) (Or.inl ⟨rfl, fun _ _ => exec_move _ rfl _ rfl⟩) hS0 ?_
          (try simp only [Act.put, List.getElem_toArray, List.getElem_cons_zero, List.getElem_cons_succ, List.setIfInBounds_toArray, List.set_cons_zero, List.set_cons_succ])
          refine wpAnyH_take (i := 3) (v := .int .i64 (4 * (n : Int))) rfl (by kernel_rfl) (by kernel_rfl) (by kernel_rfl) (fun _ _ _ h => h) (Or.inl ⟨rfl, fun _ _ => exec_arith .mul (.inr (.inr rfl)) _ _ _ _ rfl (4) ((n : Int)) rfl rfl _ rfl (by omega) (by omega)⟩) hS0 ?_
          (try simp only [Act.put, List.getElem_toArray, List.getElem_cons_zero, List.getElem_cons_succ, List.setIfInBounds_toArray, List.set_cons_zero, List.set_cons_succ])
          refine wpAnyH_take (i := 4) (v := .int .i64 ((q : Int) + 1)) rfl (by kernel_rfl) (by kernel_rfl) (by kernel_rfl) (fun _ _ _ h => h) (Or.inl ⟨rfl, fun _ _ => exec_move _ rfl _ rfl⟩) hS0 ?_
          (try simp only [Act.put, List.getElem_toArray, List.getElem_cons_zero, List.getElem_cons_succ, List.setIfInBounds_toArray, List.set_cons_zero, List.set_cons_succ])
          refine wpAnyH_take (i := 5) (v := .int .i64 (4 * (n : Int) + ((q : Int) + 1))) rfl (by kernel_rfl) (by kernel_rfl) (by kernel_rfl) (fun _ _ _ h => h) (Or.inl ⟨rfl, fun _ _ => exec_arith .add (.inl rfl) _ _ _ _ rfl (4 * (n : Int)) ((q : Int) + 1) rfl rfl _ rfl (by omega) (by omega)⟩) hS0 ?_
          (try simp only [Act.put, List.getElem_toArray, List.getElem_cons_zero, List.getElem_cons_succ, List.setIfInBounds_toArray, List.set_cons_zero, List.set_cons_succ])
          refine wpAnyH_take (i := 6) (v := .int .i64 (4 * (n : Int) + ((q : Int) + 1) - 2)) rfl (by kernel_rfl) (by kernel_rfl) (by kernel_rfl) (fun _ _ _ h => h) (Or.inl ⟨rfl, fun _ _ => exec_arith .sub (.inr (.inl rfl)) _ _ _ _ rfl (4 * (n : Int) + ((q : Int) + 1)) (2) rfl rfl _ rfl (by omega) (by omega)⟩) hS0 ?_
          (try simp only [Act.put, List.getElem_toArray, List.getElem_cons_zero, List.getElem_cons_succ, List.setIfInBounds_toArray, List.set_cons_zero, List.set_cons_succ])
          refine wpAnyH_take (i := 7) (v := .int .i64 (4 * (n : Int) + ((q : Int) + 1) - 2 + 32)) rfl (by kernel_rfl) (by kernel_rfl) (by kernel_rfl) (fun _ _ _ h => h) (Or.inl ⟨rfl, fun _ _ => exec_arith .add (.inl rfl) _ _ _ _ rfl (4 * (n : Int) + ((q : Int) + 1) - 2) (32) rfl rfl _ rfl (by omega) (by omega)⟩) hS0 ?_
          (try simp only [Act.put, List.getElem_toArray, List.getElem_cons_zero, List.getElem_cons_succ, List.setIfInBounds_toArray, List.set_cons_zero, List.set_cons_succ])
          refine wpAnyH_take (i := 8) (v := .int .i64 ((4 * (n : Int) + ((q : Int) + 1) - 2 + 32) % 32)) rfl (by kernel_rfl) (by kernel_rfl) (by kernel_rfl) (fun _ _ _ h => h) (Or.inl ⟨rfl, fun _ _ => exec_rem _ _ _ _ rfl (4 * (n : Int) + ((q : Int) + 1) - 2 + 32) 32 rfl rfl (by omega) (by omega) (by omega)⟩) hS0 ?_
          (try simp only [Act.put, List.getElem_toArray, List.getElem_cons_zero, List.getElem_cons_succ, List.setIfInBounds_toArray, List.set_cons_zero, List.set_cons_succ])
          refine wpAnyH_take (i := 9) (v := .pointer (some (a1.add ((4 * n + q + 31) % 32)))) rfl (by kernel_rfl) (by kernel_rfl) (by kernel_rfl) (fun _ _ _ h => h) (Or.inl ⟨rfl, fun _ _ => exec_sl1 63 _ _ rfl a1 32 c1 rfl .i64 _ rfl ((4 * n + q + 31) % 32) (by omega) 3 Tryz.underlying63 i1 iI⟩) hS0 ?_
          (try simp only [Act.put, List.getElem_toArray, List.getElem_cons_zero, List.getElem_cons_succ, List.setIfInBounds_toArray, List.set_cons_zero, List.set_cons_succ])
          refine wpAnyH_take (i := 10) (v := .int .i64 ((h ((4 * n + q + 31) % 32) : Nat) : Int)) rfl (by kernel_rfl) (by kernel_rfl) (by kernel_rfl) (fun _ _ _ h => h) (Or.inl ⟨rfl, fun W hW => exec_ld 3 _ rfl _ rfl .i64 Tryz.underlying3 _ (C1.out W hW)⟩) hS0 ?_
          (try simp only [Act.put, List.getElem_toArray, List.getElem_cons_zero, List.getElem_cons_succ, List.setIfInBounds_toArray, List.set_cons_zero, List.set_cons_succ])
          refine wpAnyH_take (i := 11) (v := .slice (some a2) 48 c2) rfl (by kernel_rfl) (by kernel_rfl) (by kernel_rfl) (fun _ _ _ h => h) (Or.inl ⟨rfl, fun _ _ => exec_move _ rfl _ rfl⟩) hS0 ?_
          (try simp only [Act.put, List.getElem_toArray, List.getElem_cons_zero, List.getElem_cons_succ, List.setIfInBounds_toArray, List.set_cons_zero, List.set_cons_succ])
          refine wpAnyH_take (i := 12) (v := .int .i64 (n : Int)) rfl (by kernel_rfl) (by kernel_rfl) (by kernel_rfl) (fun _ _ _ h => h) (Or.inl ⟨rfl, fun _ _ => exec_move _ rfl _ rfl⟩) hS0 ?_
          (try simp only [Act.put, List.getElem_toArray, List.getElem_cons_zero, List.getElem_cons_succ, List.setIfInBounds_toArray, List.set_cons_zero, List.set_cons_succ])
          refine wpAnyH_take (i := 13) (v := .int .i64 (6 * (n : Int))) rfl (by kernel_rfl) (by kernel_rfl) (by kernel_rfl) (fun _ _ _ h => h) (Or.inl ⟨rfl, fun _ _ => exec_arith .mul (.inr (.inr rfl)) _ _ _ _ rfl (6) ((n : Int)) rfl rfl _ rfl (by omega) (by omega)⟩) hS0 ?_
          (try simp only [Act.put, List.getElem_toArray, List.getElem_cons_zero, List.getElem_cons_succ, List.setIfInBounds_toArray, List.set_cons_zero, List.set_cons_succ])
          refine wpAnyH_take (i := 14) (v := .int .i64 ((q : Int) + 1)) rfl (by kernel_rfl) (by kernel_rfl) (by kernel_rfl) (fun _ _ _ h => h) (Or.inl ⟨rfl, fun _ _ => exec_move _ rfl _ rfl⟩) hS0 ?_
          (try simp only [Act.put, List.getElem_toArray, List.getElem_cons_zero, List.getElem_cons_succ, List.setIfInBounds_toArray, List.set_cons_zero, List.set_cons_succ])
          refine wpAnyH_take (i := 15) (v := .int .i64 (6 * (n : Int) + ((q : Int) + 1))) rfl (by kernel_rfl) (by kernel_rfl) (by kernel_rfl) (fun _ _ _ h => h) (Or.inl ⟨rfl, fun _ _ => exec_arith .add (.inl rfl) _ _ _ _ rfl (6 * (n : Int)) ((q : Int) + 1) rfl rfl _ rfl (by omega) (by omega)⟩) hS0 ?_
          (try simp only [Act.put, List.getElem_toArray, List.getElem_cons_zero, List.getElem_cons_succ, List.setIfInBounds_toArray, List.set_cons_zero, List.set_cons_succ])
          refine wpAnyH_take (i := 16) (v := .int .i64 (6 * (n : Int) + ((q : Int) + 1) - 1)) rfl (by kernel_rfl) (by kernel_rfl) (by kernel_rfl) (fun _ _ _ h => h) (Or.inl ⟨rfl, fun _ _ => exec_arith .sub (.inr (.inl rfl)) _ _ _ _ rfl (6 * (n : Int) + ((q : Int) + 1)) (1) rfl rfl _ rfl (by omega) (by omega)⟩) hS0 ?_
          (try simp only [Act.put, List.getElem_toArray, List.getElem_cons_zero, List.getElem_cons_succ, List.setIfInBounds_toArray, List.set_cons_zero, List.set_cons_succ])
          refine wpAnyH_take (i := 17) (v := .pointer (some (a2.add (6 * n + q)))) rfl (by kernel_rfl) (by kernel_rfl) (by kernel_rfl) (fun _ _ _ h => h) (Or.inl ⟨rfl, fun _ _ => exec_sl1 63 _ _ rfl a2 48 c2 rfl .i64 _ rfl (6 * n + q) (by omega) 3 Tryz.underlying63 i2 iI⟩) hS0 ?_
          (try simp only [Act.put, List.getElem_toArray, List.getElem_cons_zero, List.getElem_cons_succ, List.setIfInBounds_toArray, List.set_cons_zero, List.set_cons_succ])
          refine wpAnyH_take (i := 18) (v := .int .i64 ((k (6 * n + q) : Nat) : Int)) rfl (by kernel_rfl) (by kernel_rfl) (by kernel_rfl) (fun _ _ _ h => h) (Or.inl ⟨rfl, fun W hW => exec_ld 3 _ rfl _ rfl .i64 Tryz.underlying3 _ (C2.out W hW)⟩) hS0 ?_
          (try simp only [Act.put, List.getElem_toArray, List.getElem_cons_zero, List.getElem_cons_succ, List.setIfInBounds_toArray, List.set_cons_zero, List.set_cons_succ])
          refine wpAnyH_take (i := 19) (v := .int .i64 ((sixF h k n q : Nat) : Int)) rfl (by kernel_rfl) (by kernel_rfl) (by kernel_rfl) (fun _ _ _ h => h) (Or.inl ⟨rfl, fun _ _ => exec_xor _ _ _ _ rfl _ _ rfl rfl _ HX.out⟩) hS0 ?_
          (try simp only [Act.put, List.getElem_toArray, List.getElem_cons_zero, List.getElem_cons_succ, List.setIfInBounds_toArray, List.set_cons_zero, List.set_cons_succ])
          refine wpAnyH_ready (rs := [20]) (by kernel_rfl) (by simp) (AllReadyH.cons rfl (fun K hK => ?_) AllReadyH.nil)
          (try simp only [Act.put, List.getElem_toArray, List.getElem_cons_zero, List.getElem_cons_succ, List.setIfInBounds_toArray, List.set_cons_zero, List.set_cons_succ])
          refine Eq.mpr (if_pos (by rfl)) ?_
          refine wp_bs 63 _ rfl (.int .i64 ((sixF h k n q : Nat) : Int)) rfl #[.int .i64 ((sixF h k n q : Nat) : Int)] 3 (bs1 _ _) ?_
          (try simp only [Act.put, List.getElem_toArray, List.getElem_cons_zero, List.getElem_cons_succ, List.setIfInBounds_toArray, List.set_cons_zero, List.set_cons_succ])
          refine hK.out _ _ (hS0.alloc (Nat.le_trans hB6.size hS0.size) _) (fun hS1 => ?_)
          (try simp only [Act.put, List.getElem_toArray, List.getElem_cons_zero, List.getElem_cons_succ, List.setIfInBounds_toArray, List.set_cons_zero, List.set_cons_succ])
          clear hK K
          refine wpAnyH_ready (rs := [21]) (by kernel_rfl) (by simp) (AllReadyH.cons rfl (fun K hK => ?_) AllReadyH.nil)
          (try simp only [Act.put, List.getElem_toArray, List.getElem_cons_zero, List.getElem_cons_succ, List.setIfInBounds_toArray, List.set_cons_zero, List.set_cons_succ])
          refine Eq.mpr (if_pos (by rfl)) ?_
          have ho7 : OwnV wr.drew wo.heap.size 3 u8 q (iv .i64 (sixF h k n)) := ho6
          have hnew := new_one wr.drew (.int .i64 ((sixF h k n q : Nat) : Int)) 3
          refine wp_appV _ _ 63 rfl wo.heap.size 3 (.int .i64 0) 8 Tryz.underlying63 infoI rfl _ q _ rfl (ho7.alloc _) ⟨wr.heap.size, 0, none⟩ 1 1 (fun _ => .int .i64 ((sixF h k n q : Nat) : Int)) hnew (fun _ => rfl) rfl (by omega) (by omega) (Nat.le_trans hB6.size hS1.size) ?_
          intro v' w1 ho1 hB1 _
          (try simp only [Act.put, List.getElem_toArray, List.getElem_cons_zero, List.getElem_cons_succ, List.setIfInBounds_toArray, List.set_cons_zero, List.set_cons_succ])
          refine hK.out _ _ (hS1.trans hB1) (fun hS2 => ?_)
          (try simp only [Act.put, List.getElem_toArray, List.getElem_cons_zero, List.getElem_cons_succ, List.setIfInBounds_toArray, List.set_cons_zero, List.set_cons_succ])
          clear hK K
          refine wpAnyH_take (i := 22) (v := v') rfl (by kernel_rfl) (by kernel_rfl) (by kernel_rfl) (fun _ _ _ h => h) (Or.inl ⟨rfl, fun _ _ => exec_assign _ rfl _ rfl⟩) hS2 ?_
          (try simp only [Act.put, List.getElem_toArray, List.getElem_cons_zero, List.getElem_cons_succ, List.setIfInBounds_toArray, List.set_cons_zero, List.set_cons_succ])
          refine wpAnyH_done (by kernel_rfl) ?_ _
          have ho2 := own_step ho1 rfl
          have hB2 := hB6.trans hS2
          clear ho1 hB1 hS0 hS1 hS2 ho6 ho7 hB6 hBw
          go_wp2_with fail
          exact ⟨⟨q + 1, by omega, ho2, val_int (by omega), hB2⟩, by simp [intOf]; omega⟩
        · have hlst : OwnV wr wo.heap.size 3 u8 6 (iv .i64 (sixF h k n)) := by
            have hq6 : q = 6 := by omega
            rw [hq6] at ho6; exact ho6
          rcases hlst.form with ⟨_, h0⟩ | ⟨g6, cap6, cur6, rfl, _, hg6, hcap6, hb6, hc6⟩
          · omega
          have v0 : wr.cell? ⟨g6, 0, none⟩ = some (.int .i64 ((sixF h k n 0 : Nat) : Int)) := (hb6.cell 0).trans (hc6 0 (by omega))
          have v1 : wr.cell? ⟨g6, 1, none⟩ = some (.int .i64 ((sixF h k n 1 : Nat) : Int)) := (hb6.cell 1).trans (hc6 1 (by omega))
          have v2 : wr.cell? ⟨g6, 2, none⟩ = some (.int .i64 ((sixF h k n 2 : Nat) : Int)) := (hb6.cell 2).trans (hc6 2 (by omega))
          have v3 : wr.cell? ⟨g6, 3, none⟩ = some (.int .i64 ((sixF h k n 3 : Nat) : Int)) := (hb6.cell 3).trans (hc6 3 (by omega))
          have v4 : wr.cell? ⟨g6, 4, none⟩ = some (.int .i64 ((sixF h k n 4 : Nat) : Int)) := (hb6.cell 4).trans (hc6 4 (by omega))
          have v5 : wr.cell? ⟨g6, 5, none⟩ = some (.int .i64 ((sixF h k n 5 : Nat) : Int)) := (hb6.cell 5).trans (hc6 5 (by omega))
          have b0 := sixF_lt Hh.out Hk.out n 0 hlt (by omega)
          have b1 := sixF_lt Hh.out Hk.out n 1 hlt (by omega)
          have b2 := sixF_lt Hh.out Hk.out n 2 hlt (by omega)
          have b3 := sixF_lt Hh.out Hk.out n 3 hlt (by omega)
          have b4 := sixF_lt Hh.out Hk.out n 4 hlt (by omega)
          have b5 := sixF_lt Hh.out Hk.out n 5 hlt (by omega)
          have HB : Hid (∀ t, t < 4 → boxF h k (4 * n + t) = (boxes.getD n []).getD (16 * (2 * sixF h k n 0 + sixF h k n 5) + (8 * sixF h k n 1 + 4 * sixF h k n 2 + 2 * sixF h k n 3 + sixF h k n 4)) 0 / 2 ^ (3 - t) % 2) := hid (fun t ht => by
            unfold boxF
            rw [show (4 * n + t) / 4 = n by omega, show (4 * n + t) % 4 = t by omega])
          have hobs := Hho.out.below hB6 (Nat.le_refl _)
          have hbb := Hhb.out.below hB6 Hhb.out.lt
          have hszw : Hid (w.heap.size + 1 ≤ wr.heap.size) := hid (Nat.le_trans hs hB6.size)
          clear hlst hb6 hc6 ho6 hB6 hg6
          generalize sixF h k n 0 = s0 at *
          generalize sixF h k n 1 = s1 at *
          generalize sixF h k n 2 = s2 at *
          generalize sixF h k n 3 = s3 at *
          generalize sixF h k n 4 = s4 at *
          generalize sixF h k n 5 = s5 at *
          go_wp2_with fail
          go_quiet (fail)
          generalize nq = nA
          go_wp2_with fail
          go_quiet (fail)
          have hoy := (hobs.drewN nA).drewN nq
          have hby := (hbb.drewN nA).drewN nq
          have hBy := below_drewN (below_drewN hBw nA) nq
          have hsy : w.heap.size + 1 ≤ ((wr.drewN nA).drewN nq).heap.size := by have := hszw.out; simpa using this
          clear hobs hbb hBw v0 v1 v2 v3 v4 v5
          generalize (wr.drewN nA).drewN nq = wy at *
          have hidx : 16 * (2 * s0 + s5) + (8 * s1 + 4 * s2 + 2 * s3 + s4) < 64 := by omega
          have Hby := hid ((bxs_ok n hlt).2 _ hidx)
          have hdg := box_dig n hlt _ hidx
          generalize hXe : (boxes.getD n []).getD (16 * (2 * s0 + s5) + (8 * s1 + 4 * s2 + 2 * s3 + s4)) 0 = X at *
          clear hXe
          have HC : Hid (wy.cell? ⟨w.heap.size, n, none⟩ = some (.string (bxs n))) := hid ((hby.cell n).trans (row_get 8 bxv n hlt))
          go_wp2_with (first
            | (with_reducible refine wpl_slb rfl 168 _ _ rfl _ _ _ rfl .i64 _ rfl n rfl 9 Tryz.underlying168 hlt infoS ?_)
            | (with_reducible refine wpl_ldstr rfl 9 _ rfl _ rfl Tryz.underlying9 _ HC.out ?_)
            | (with_reducible refine wpl_str rfl 9 _ _ rfl _ rfl .i64 _ rfl (16 * (2 * s0 + s5) + (8 * s1 + 4 * s2 + 2 * s3 + s4)) (by omega) Tryz.underlying9 _ Hby.out ?_)
            | (go_at_call 102; refine (digit_any X hdg _).mono ?_; rintro e w' ⟨rfl, rfl⟩)
            | (at_builtin; refine wpl_appN rfl _ _ 63 rfl (w.heap.size + 1) 3 (.int .i64 0) 8 Tryz.underlying63 infoI rfl _ (4 * n) _ rfl hoy 4 (iv .i64 fun t => X / 2 ^ (3 - t) % 2) _ (row4i X _ _ _ _ (by omega) (by omega) (by omega) (by omega)) (fun _ => rfl) rfl (by omega) (by omega) hsy ?_))
          intro v' w1 ho1 hB1 hG1
          have ho2 : OwnV w1 (w.heap.size + 1) 3 v' (4 * (n + 1)) (iv .i64 (boxF h k)) := ho1.ext (fun i hi => by
            unfold catV iv
            by_cases hin : i < 4 * n
            · rw [if_pos hin]
            · rw [if_neg hin]
              have hb := HB.out (i - 4 * n) (by omega)
              rw [show 4 * n + (i - 4 * n) = i by omega] at hb
              exact ivx hb.symm)
          have hb2 := hby.below hB1 (by omega)
          have hB2 := hBy.trans (hB1.mono (by omega))
          have hs2 := Nat.le_trans hsy hB1.size
          clear ho1 hB1 hG1 hby hBy hoy
          go_wp2_with fail
          exact ⟨⟨n + 1, by omega, ho2, val_int (by omega), hb2, hB2, hs2⟩, by simp [intOf]; omega⟩
    · go_wp2_with fail
      have hlst : OwnV wo (w.heap.size + 1) 3 u6 32 (iv .i64 (boxF h k)) := by
        have hn8 : n = 8 := by omega
        rw [hn8] at ho; exact ho
      obtain ⟨A6, c6, rfl, hc6, hL6⟩ := hlst.lst (by omega)
      refine (permute_any _ 32 tp (by decide +kernel) A6 32 c6 _ (by omega) (by omega) tp_range _ hL6).mono ?_
      rintro e w7 ⟨A7, c7, rfl, hc7, hL7, hB7⟩
      go_wp2_with fail
      go_ret
      exact ⟨A7, c7, rfl, hc7, hL7, hB.trans (hB7.mono hB.size)⟩
end Go.Proofs.YtomeeebiijmnmaaGreatDoor.Des
