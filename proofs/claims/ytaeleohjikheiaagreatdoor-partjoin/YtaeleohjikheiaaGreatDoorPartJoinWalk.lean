/-
  PartJoin returns true: its walk.
-/
import Derived.Test.YtaeleohjikheiaaGreatDoorLaw09
namespace Go.Proofs.YtaeleohjikheiaaGreatDoor.Pt.Joined
open Mem Bk Md Mc Pt As Go.ChangeShapes Go.WideShapes Go.ChangeAt Go.RowKit
theorem exec_half {P : Program} {o : Oper} {a : Act} {w : World} (t : TypeId) (x y : Operand) (rt : TypeId) (ho : o.op = .binOp .quo t x y rt) (n z : Nat) (hn : n < 256) (hz : n / 2 = z) (hx : a.eval x = .int .u8 (n : Int)) (hy : a.eval y = .int .u8 2) : (execOp a.eval o).run P w = .ok (.value (.int .u8 (z : Int))) w := by
  have hm : (n : Int).tdiv 2 = (z : Int) := by rw [Int.tdiv_eq_ediv_of_nonneg (by omega)]; omega
  have hw : IntKind.u8.wrap (z : Int) = (z : Int) := by simp [IntKind.wrap_u8]; omega
  unfold execOp
  simp [ho, hx, hy, eqGuard, binOp, Op.intDiv, hm, hw]
set_option maxRecDepth 100000 in
theorem exec_eqbool {o : Oper} {a : Act} {w : World} (x y : Operand) (ho : o.op = .binOp .eql 4 x y 4) (p q : Bool) (hx : a.eval x = .bool p) (hy : a.eval y = .bool q) (h : (p == q) = true) : (execOp a.eval o).run Tryz.prog w = .ok (.value (.bool true)) w := by
  have hp : p = q := by simpa using h
  subst hp
  unfold execOp
  simp only [ho, hx, hy]
  cases p <;> rfl
theorem exec_cutU {P : Program} {o : Oper} {a : Act} {w : World} (ty : TypeId) (p hi : Operand) (ho : o.op = .slice ty p none (some hi) none) (u z v : Value) (hp : a.eval p = u) (hh : a.eval hi = z) (hr : (Instr.sliceAt ty u none (some z) none).run P w = .ok v w) : (execOp a.eval o).run P w = .ok (.value v) w := by
  subst hp; subst hh
  unfold execOp
  simp [ho, hr]
theorem cut16 (ad : Addr) (w : World) : (Instr.sliceAt 63 (.pointer (some ad)) none (some (.int .i64 16)) none).run Tryz.prog w = .ok (.slice (some ad) 16 24) w := by kernel_rfl
theorem cut24 (ad : Addr) (w : World) : (Instr.sliceAt 63 (.pointer (some ad)) none (some (.int .i64 24)) none).run Tryz.prog w = .ok (.slice (some ad) 24 24) w := by kernel_rfl
theorem bs2S (A0 A1 : Option Addr) (n0 c0 n1 c1 : Nat) (w : World) : (Instr.buildSlice 59 2 #[(0, .slice A0 n0 c0), (1, .slice A1 n1 c1)]).run Tryz.prog w = .ok (.slice (some ⟨w.heap.size, 0, none⟩) 2 2) (w.alloc (.cells #[.slice A0 n0 c0, .slice A1 n1 c1] 22)) := by kernel_rfl
theorem bs3S (A0 A1 A2 : Option Addr) (n0 c0 n1 c1 n2 c2 : Nat) (w : World) : (Instr.buildSlice 59 3 #[(0, .slice A0 n0 c0), (1, .slice A1 n1 c1), (2, .slice A2 n2 c2)]).run Tryz.prog w = .ok (.slice (some ⟨w.heap.size, 0, none⟩) 3 3) (w.alloc (.cells #[.slice A0 n0 c0, .slice A1 n1 c1, .slice A2 n2 c2] 22)) := by kernel_rfl
section
variable {P : Program} {o : Oper} {a : Act} {w : World} {K : Act → World → Prop} {Q : Exit → Act → World → Prop}
theorem wp_bs2S (t : TypeId) (p q : Operand) (ho : o.op = .buildSlice t 2 #[(0, p), (1, q)]) (u v : Value) (hp : a.eval p = u) (hq : a.eval q = v) (cs : Array Value) (e : TypeId)
    (hr : (Instr.buildSlice t 2 #[(0, u), (1, v)]).run P w = .ok (.slice (some ⟨w.heap.size, 0, none⟩) 2 2) (w.alloc (.cells cs e)))
    (h : K (a.put o.dst (.slice (some ⟨w.heap.size, 0, none⟩) 2 2)) (w.alloc (.cells cs e))) : o.wp P a w K Q := by
  unfold Oper.wp execOp
  simp only [ho, List.map_toArray, List.map_cons, List.map_nil, hp, hq, hr, Sem.run_bind, Sem.run_pure, Result.andThen_ok]
  exact h
theorem wp_bs3S (t : TypeId) (p q r : Operand) (ho : o.op = .buildSlice t 3 #[(0, p), (1, q), (2, r)]) (u v x : Value) (hp : a.eval p = u) (hq : a.eval q = v) (hx : a.eval r = x) (cs : Array Value) (e : TypeId)
    (hr : (Instr.buildSlice t 3 #[(0, u), (1, v), (2, x)]).run P w = .ok (.slice (some ⟨w.heap.size, 0, none⟩) 3 3) (w.alloc (.cells cs e)))
    (h : K (a.put o.dst (.slice (some ⟨w.heap.size, 0, none⟩) 3 3)) (w.alloc (.cells cs e))) : o.wp P a w K Q := by
  unfold Oper.wp execOp
  simp only [ho, List.map_toArray, List.map_cons, List.map_nil, hp, hq, hx, hr, Sem.run_bind, Sem.run_pure, Result.andThen_ok]
  exact h
end
/-- alike but for the lowest bits -/
def hB (n : Nat) (f g : Nat → Nat) : Bool := (List.range n).all fun i => f i / 2 == g i / 2
theorem hB_iff {n : Nat} {f g : Nat → Nat} : hB n f g = true ↔ ∀ i, i < n → f i / 2 = g i / 2 := by
  unfold hB
  simp [List.all_eq_true]
set_option maxRecDepth 100000 in
set_option maxHeartbeats 1000000 in
theorem alike_any (A A' : Option Addr) (n c c' : Nat) (f g : Nat → Nat) (w : World) (hn : n ≤ 1000) (hf : ∀ i, i < n → f i < 256) (hg : ∀ i, i < n → g i < 256) (hR : Reads w w.heap.size A n f) (hR' : Reads w w.heap.size A' n g) :
    Calls Tryz.prog 38 #[.slice A n c, .slice A' n c'] w fun e w' => e = .returned (.bool (hB n f g)) ∧ Below w.heap.size w w' := by
  have HR := hid hR
  have HR' := hid hR'
  have Hf := hid hf
  have Hg := hid hg
  clear hR hR' hf hg
  go_enter Tryz.func38, Tryz.ntmps38
  go_wp2_with fail
  go_loopw [5] (fun y wr => ∃ k : Nat, k ≤ n ∧ y = .int .i64 (k : Int) ∧ Hid (∀ i, i < k → f i / 2 = g i / 2) ∧ Below w.heap.size w wr) (fun y _ => n - (intOf y).toNat)
  case atStart => exact ⟨0, by omega, rfl, hid (fun i hi => by omega), Below.refl _ _⟩
  case round =>
    obtain ⟨k, hk, rfl, HK, hB1⟩ := hrel
    by_cases hlt : k < n
    · obtain ⟨ad, rfl, hbl, hcs⟩ := HR.out (by omega)
      obtain ⟨ad', rfl, hbl', hcs'⟩ := HR'.out (by omega)
      have hfk := Hf.out k hlt
      have hgk := Hg.out k hlt
      have hc := (hB1.cell (p := ad.add k) (by rw [add_block]; exact hbl)).trans (hcs k hlt)
      have hc' := (hB1.cell (p := ad'.add k) (by rw [add_block]; exact hbl')).trans (hcs' k hlt)
      obtain ⟨y, hy⟩ : ∃ y, f k / 2 = y := ⟨_, rfl⟩
      obtain ⟨z, hz⟩ : ∃ z, g k / 2 = z := ⟨_, rfl⟩
      clear hcs hcs'
      by_cases hyz : y = z
      · have hyzI : ((y : Int) != (z : Int)) = false := by simp [hyz]
        have HK2 : Hid (∀ i, i < k + 1 → f i / 2 = g i / 2) := hid (fun i hi => by
          by_cases hik : i = k
          · subst hik; omega
          · exact HK.out i (by omega))
        clear hyz
        go_wp2_with fail
        refine wp_region_still_lit (by kernel_rfl) (by kernel_rfl) ?_
        change wpStill _ _ wr.drew _ _ _
        have hd : wr.drew.cell? (ad.add (k * 1)) = some (.int .u8 ((f k : Nat) : Int)) := by rw [Nat.mul_one]; exact hc
        have hd' : wr.drew.cell? (ad'.add (k * 1)) = some (.int .u8 ((g k : Nat) : Int)) := by rw [Nat.mul_one]; exact hc'
        clear hc hc'
        have hB2 := hB1.drew
        generalize hw2 : wr.drew = w2 at *
        repeat (first
          | (with_reducible refine wps_sl rfl 22 _ _ rfl ad n c rfl .i64 _ rfl k rfl 5 Tryz.underlying22 hlt 1 i8q ?_)
          | (with_reducible refine wps_sl rfl 22 _ _ rfl ad' n c' rfl .i64 _ rfl k rfl 5 Tryz.underlying22 hlt 1 i8q ?_)
          | (with_reducible refine wps_ld rfl 5 _ rfl _ rfl .u8 Tryz.underlying5 _ hd ?_)
          | (with_reducible refine wps_ld rfl 5 _ rfl _ rfl .u8 Tryz.underlying5 _ hd' ?_)
          | (with_reducible refine wps_val rfl _ (exec_half _ _ _ _ rfl (f k) y hfk hy rfl rfl) ?_)
          | (with_reducible refine wps_val rfl _ (exec_half _ _ _ _ rfl (g k) z hgk hz rfl rfl) ?_)
          | still_step)
        refine wpStill_nil ?_
        go_wp2_with fail
        exact ⟨⟨k + 1, by omega, val_int (by omega), HK2, hB2⟩, by simp [intOf]; omega⟩
      · have hyzI : ((y : Int) != (z : Int)) = true := by simp; omega
        have hn2 : Hid (hB n f g = false) := hid (by
          rw [Bool.eq_false_iff]
          intro h
          exact hyz (by rw [← hy, ← hz]; exact hB_iff.1 h k hlt))
        clear hyz
        go_wp2_with fail
        refine wp_region_still_lit (by kernel_rfl) (by kernel_rfl) ?_
        change wpStill _ _ wr.drew _ _ _
        have hd : wr.drew.cell? (ad.add (k * 1)) = some (.int .u8 ((f k : Nat) : Int)) := by rw [Nat.mul_one]; exact hc
        have hd' : wr.drew.cell? (ad'.add (k * 1)) = some (.int .u8 ((g k : Nat) : Int)) := by rw [Nat.mul_one]; exact hc'
        clear hc hc'
        have hB2 := hB1.drew
        generalize hw2 : wr.drew = w2 at *
        repeat (first
          | (with_reducible refine wps_sl rfl 22 _ _ rfl ad n c rfl .i64 _ rfl k rfl 5 Tryz.underlying22 hlt 1 i8q ?_)
          | (with_reducible refine wps_sl rfl 22 _ _ rfl ad' n c' rfl .i64 _ rfl k rfl 5 Tryz.underlying22 hlt 1 i8q ?_)
          | (with_reducible refine wps_ld rfl 5 _ rfl _ rfl .u8 Tryz.underlying5 _ hd ?_)
          | (with_reducible refine wps_ld rfl 5 _ rfl _ rfl .u8 Tryz.underlying5 _ hd' ?_)
          | (with_reducible refine wps_val rfl _ (exec_half _ _ _ _ rfl (f k) y hfk hy rfl rfl) ?_)
          | (with_reducible refine wps_val rfl _ (exec_half _ _ _ _ rfl (g k) z hgk hz rfl rfl) ?_)
          | still_step)
        refine wpStill_nil ?_
        go_wp2_with fail
        go_ret
        exact ⟨by rw [hn2.out]; rfl, by subst hw2; exact hB2⟩
    · have hkI : ¬ (k : Int) < (n : Int) := by omega
      have hn2 : Hid (hB n f g = true) := hid (hB_iff.2 (fun i hi => HK.out i (by omega)))
      go_wp2_with fail
      go_ret
      exact ⟨by rw [hn2.out]; rfl, hB1⟩
theorem xr0 (f : Nat → Nat) : xr zf f = f := by funext i; show 0 ^^^ f i = f i; exact Nat.zero_xor _
theorem jk1 (f : Nat → Nat) : jk 1 f = f := by unfold jk; rw [if_neg (by omega)]
theorem jk2 (f : Nat → Nat) : jk 2 f = odF f := by unfold jk; rw [if_pos rfl]
theorem sameA (n : Nat) (a b c : Nat → Nat) : eqB n (jk 1 (xr (xr (xr zf a) b) c)) (jk 1 (xr (xr (xr zf c) a) b)) = true := eqB_true fun i _ => by
  rw [jk1, jk1, xr0, xr0]
  show (a i ^^^ b i) ^^^ c i = (c i ^^^ a i) ^^^ b i
  rw [Nat.xor_comm (a i ^^^ b i) (c i), Nat.xor_assoc]
theorem sameB (n : Nat) (a b : Nat → Nat) : eqB n (jk 1 (xr (xr (xr zf a) b) b)) a = true := eqB_true fun i _ => by
  rw [jk1, xr0]
  show (a i ^^^ b i) ^^^ b i = a i
  rw [Nat.xor_assoc, Nat.xor_self, Nat.xor_zero]
theorem sameC {n : Nat} {a b c : Nat → Nat} (ha : ∀ i, i < n → a i < 256) (hb : ∀ i, i < n → b i < 256) (hc : ∀ i, i < n → c i < 256) : (eqB n (jk 2 (xr (xr zf a) b)) (jk 2 (xr (xr zf a) c)) == hB n b c) = true := by
  have h : eqB n (jk 2 (xr (xr zf a) b)) (jk 2 (xr (xr zf a) c)) = hB n b c := by
    rw [Bool.eq_iff_iff, eqB_iff, hB_iff, jk2, jk2, xr0]
    constructor
    · intro h i hi
      exact (xr_half (ha i hi) (hb i hi) (hc i hi)).1 (h i hi)
    · intro h i hi
      exact (xr_half (ha i hi) (hb i hi) (hc i hi)).2 (h i hi)
  rw [h]
  exact beq_self_eq_true _
theorem oddU {n : Nat} {a b : Nat → Nat} (ha : ∀ i, i < n → a i < 256) (hb : ∀ i, i < n → b i < 256) : AllOdd n (jk 2 (xr (xr zf a) b)) := by
  rw [jk2, xr0]
  exact odF_all (fun i hi => xr_lt (ha i hi) (hb i hi))
theorem ltU {n : Nat} {a b : Nat → Nat} (ha : ∀ i, i < n → a i < 256) (hb : ∀ i, i < n → b i < 256) : ∀ i, i < n → jk 2 (xr (xr zf a) b) i < 256 := by
  rw [jk2, xr0]
  exact odF_lt (fun i hi => xr_lt (ha i hi) (hb i hi))
set_option linter.unusedSimpArgs false in
set_option maxRecDepth 100000 in
set_option maxHeartbeats 2000000 in
theorem j16 (a b c : Nat → Nat) (w : World) (hg : Laid w) (ha : ∀ i, i < 24 → a i < 256) (hb : ∀ i, i < 24 → b i < 256) (hc : ∀ i, i < 24 → c i < 256) :
    Calls Tryz.prog 8 #[.agg (row 24 (b8 a)), .agg (row 24 (b8 b)), .agg (row 24 (b8 c)), .bool false] w fun e w' => e = .returned (.bool true) ∧ Below w.heap.size w w' := by
  have HB3 : Hid (Below w.heap.size w (((w.alloc (.cells (row 24 (b8 a)) 63)).alloc (.cells (row 24 (b8 b)) 63)).alloc (.cells (row 24 (b8 c)) 63))) := hid ((((Below.refl _ w).alloc (Nat.le_refl _) _).alloc (by simp) _).alloc (by simp; omega) _)
  have hba : Blk (((w.alloc (.cells (row 24 (b8 a)) 63)).alloc (.cells (row 24 (b8 b)) 63)).alloc (.cells (row 24 (b8 c)) 63)) w.heap.size 63 (row 24 (b8 a)) := ((Blk.fresh _ _ _).alloc _).alloc _
  have hbb : Blk (((w.alloc (.cells (row 24 (b8 a)) 63)).alloc (.cells (row 24 (b8 b)) 63)).alloc (.cells (row 24 (b8 c)) 63)) (w.heap.size + 1) 63 (row 24 (b8 b)) := by
    have := Blk.fresh (w.alloc (.cells (row 24 (b8 a)) 63)) 63 (row 24 (b8 b))
    have h2 : Blk ((w.alloc (.cells (row 24 (b8 a)) 63)).alloc (.cells (row 24 (b8 b)) 63)) (w.heap.size + 1) 63 (row 24 (b8 b)) := by simpa using this
    exact h2.alloc _
  have hbc : Blk (((w.alloc (.cells (row 24 (b8 a)) 63)).alloc (.cells (row 24 (b8 b)) 63)).alloc (.cells (row 24 (b8 c)) 63)) (w.heap.size + 1 + 1) 63 (row 24 (b8 c)) := by
    have := Blk.fresh ((w.alloc (.cells (row 24 (b8 a)) 63)).alloc (.cells (row 24 (b8 b)) 63)) 63 (row 24 (b8 c))
    simpa using this
  have Ka := hid hba
  have Kb := hid hbb
  have Kc := hid hbc
  have Ha : Hid (∀ i, i < 16 → a i < 256) := hid (fun i hi => ha i (by omega))
  have Hb : Hid (∀ i, i < 16 → b i < 256) := hid (fun i hi => hb i (by omega))
  have Hc : Hid (∀ i, i < 16 → c i < 256) := hid (fun i hi => hc i (by omega))
  have HG := hid hg
  clear hba hbb hbc ha hb hc hg
  go_enter Tryz.func8, Tryz.ntmps8
  go_wp2_with fail
  generalize ((w.alloc (.cells (row 24 (b8 a)) 63)).alloc (.cells (row 24 (b8 b)) 63)).alloc (.cells (row 24 (b8 c)) 63) = w3 at *
  have HX := hid (Below.refl w3.heap.size w3)
  have Rax : Hid (Reads w3.drew w3.drew.heap.size (some ⟨w.heap.size, 0, none⟩) 16 a) := hid ((Blk.reads (Ka.out.below HX.out.drew Ka.out.lt)).less (by omega))
  have Rbx : Hid (Reads w3.drew w3.drew.heap.size (some ⟨w.heap.size + 1, 0, none⟩) 16 b) := hid ((Blk.reads (Kb.out.below HX.out.drew Kb.out.lt)).less (by omega))
  have Rcx : Hid (Reads w3.drew w3.drew.heap.size (some ⟨w.heap.size + 1 + 1, 0, none⟩) 16 c) := hid ((Blk.reads (Kc.out.below HX.out.drew Kc.out.lt)).less (by omega))
  refine wp_region_held_drew (S := fun W => Below w3.heap.size w3 W) (by kernel_rfl) (Below.refl _ _).drew (fun hS0 => ?_)
  refine wpAnyH_take (i := 0) (v := .int .i64 16) rfl (by kernel_rfl) (by kernel_rfl) (by kernel_rfl) (fun _ _ _ h => h) (Or.inl ⟨rfl, fun _ _ => exec_move _ rfl _ rfl⟩) hS0 ?_
  (try simp only [Act.put, List.getElem_toArray, List.getElem_cons_zero, List.getElem_cons_succ, List.setIfInBounds_toArray, List.set_cons_zero, List.set_cons_succ])
  refine wpAnyH_take (i := 1) (v := .slice (some ⟨w.heap.size, 0, none⟩) 16 24) rfl (by kernel_rfl) (by kernel_rfl) (by kernel_rfl) (fun _ _ _ h => h) (Or.inl ⟨rfl, fun W _ => exec_cutU 63 _ _ rfl (.pointer (some ⟨w.heap.size, 0, none⟩)) (.int .i64 16) _ rfl rfl (cut16 ⟨w.heap.size, 0, none⟩ W)⟩) hS0 ?_
  (try simp only [Act.put, List.getElem_toArray, List.getElem_cons_zero, List.getElem_cons_succ, List.setIfInBounds_toArray, List.set_cons_zero, List.set_cons_succ])
  refine wpAnyH_take (i := 2) (v := .int .i64 16) rfl (by kernel_rfl) (by kernel_rfl) (by kernel_rfl) (fun _ _ _ h => h) (Or.inl ⟨rfl, fun _ _ => exec_move _ rfl _ rfl⟩) hS0 ?_
  (try simp only [Act.put, List.getElem_toArray, List.getElem_cons_zero, List.getElem_cons_succ, List.setIfInBounds_toArray, List.set_cons_zero, List.set_cons_succ])
  refine wpAnyH_take (i := 3) (v := .slice (some ⟨w.heap.size + 1, 0, none⟩) 16 24) rfl (by kernel_rfl) (by kernel_rfl) (by kernel_rfl) (fun _ _ _ h => h) (Or.inl ⟨rfl, fun W _ => exec_cutU 63 _ _ rfl (.pointer (some ⟨w.heap.size + 1, 0, none⟩)) (.int .i64 16) _ rfl rfl (cut16 ⟨w.heap.size + 1, 0, none⟩ W)⟩) hS0 ?_
  (try simp only [Act.put, List.getElem_toArray, List.getElem_cons_zero, List.getElem_cons_succ, List.setIfInBounds_toArray, List.set_cons_zero, List.set_cons_succ])
  refine wpAnyH_take (i := 4) (v := .int .i64 16) rfl (by kernel_rfl) (by kernel_rfl) (by kernel_rfl) (fun _ _ _ h => h) (Or.inl ⟨rfl, fun _ _ => exec_move _ rfl _ rfl⟩) hS0 ?_
  (try simp only [Act.put, List.getElem_toArray, List.getElem_cons_zero, List.getElem_cons_succ, List.setIfInBounds_toArray, List.set_cons_zero, List.set_cons_succ])
  refine wpAnyH_take (i := 5) (v := .slice (some ⟨w.heap.size + 1 + 1, 0, none⟩) 16 24) rfl (by kernel_rfl) (by kernel_rfl) (by kernel_rfl) (fun _ _ _ h => h) (Or.inl ⟨rfl, fun W _ => exec_cutU 63 _ _ rfl (.pointer (some ⟨w.heap.size + 1 + 1, 0, none⟩)) (.int .i64 16) _ rfl rfl (cut16 ⟨w.heap.size + 1 + 1, 0, none⟩ W)⟩) hS0 ?_
  (try simp only [Act.put, List.getElem_toArray, List.getElem_cons_zero, List.getElem_cons_succ, List.setIfInBounds_toArray, List.set_cons_zero, List.set_cons_succ])
  refine wpAnyH_ready (rs := [6]) (by kernel_rfl) (by simp) (AllReadyH.cons rfl (fun K hK => ?_) AllReadyH.nil)
  (try simp only [Act.put, List.getElem_toArray, List.getElem_cons_zero, List.getElem_cons_succ, List.setIfInBounds_toArray, List.set_cons_zero, List.set_cons_succ])
  refine Eq.mpr (if_pos (by rfl)) ?_
  refine wp_bs3S 59 _ _ _  rfl _ _ _  rfl rfl rfl  _ _ (bs3S _ _ _ _ _ _ _ _ _ _ ) ?_
  refine hK.out _ _ (hS0.alloc hS0.size _) (fun hS1 => ?_)
  (try simp only [Act.put, List.getElem_toArray, List.getElem_cons_zero, List.getElem_cons_succ, List.setIfInBounds_toArray, List.set_cons_zero, List.set_cons_succ])
  clear hK K
  refine wpAnyH_ready (rs := [7]) (by kernel_rfl) (by simp) (AllReadyH.cons rfl (fun K hK => ?_) AllReadyH.nil)
  (try simp only [Act.put, List.getElem_toArray, List.getElem_cons_zero, List.getElem_cons_succ, List.setIfInBounds_toArray, List.set_cons_zero, List.set_cons_succ])
  refine Eq.mpr (if_pos (by rfl)) ?_
  go_simp
  refine (join3 1 16 (some ⟨w.heap.size, 0, none⟩) (some ⟨w.heap.size + 1, 0, none⟩) (some ⟨w.heap.size + 1 + 1, 0, none⟩) 24 24 24  a b c _ (⟨.inl rfl, .inl rfl⟩) Rax.out Rbx.out Rcx.out Ha.out Hb.out Hc.out).mono ?_
  rintro e wq2 ⟨gx, rfl, hbx, hgx, hBx⟩
  refine hK.out _ _ (hS0.trans (hBx.mono hS0.size)) (fun hS2 => ?_)
  (try simp only [Act.put, List.getElem_toArray, List.getElem_cons_zero, List.getElem_cons_succ, List.setIfInBounds_toArray, List.set_cons_zero, List.set_cons_succ])
  clear hK K
  refine wpAnyH_take (i := 8) (v := .tuple #[.slice (some ⟨gx, 0, none⟩) 16 16, .nilIface]) rfl (by kernel_rfl) (by kernel_rfl) (by kernel_rfl) (fun _ _ _ h => h) (Or.inl ⟨rfl, fun _ _ => exec_move _ rfl _ rfl⟩) hS2 ?_
  (try simp only [Act.put, List.getElem_toArray, List.getElem_cons_zero, List.getElem_cons_succ, List.setIfInBounds_toArray, List.set_cons_zero, List.set_cons_succ])
  refine wpAnyH_take (i := 9) (v := .slice (some ⟨gx, 0, none⟩) 16 16) rfl (by kernel_rfl) (by kernel_rfl) (by kernel_rfl) (fun _ _ _ h => h) (Or.inl ⟨rfl, fun _ _ => exec_extract _ 0 rfl #[.slice (some ⟨gx, 0, none⟩) 16 16, .nilIface] rfl _ rfl⟩) hS2 ?_
  (try simp only [Act.put, List.getElem_toArray, List.getElem_cons_zero, List.getElem_cons_succ, List.setIfInBounds_toArray, List.set_cons_zero, List.set_cons_succ])
  refine wpAnyH_take (i := 10) (v := .nilIface) rfl (by kernel_rfl) (by kernel_rfl) (by kernel_rfl) (fun _ _ _ h => h) (Or.inl ⟨rfl, fun _ _ => exec_extract _ 1 rfl #[.slice (some ⟨gx, 0, none⟩) 16 16, .nilIface] rfl _ rfl⟩) hS2 ?_
  (try simp only [Act.put, List.getElem_toArray, List.getElem_cons_zero, List.getElem_cons_succ, List.setIfInBounds_toArray, List.set_cons_zero, List.set_cons_succ])
  refine wpAnyH_take (i := 11) (v := .slice (some ⟨gx, 0, none⟩) 16 16) rfl (by kernel_rfl) (by kernel_rfl) (by kernel_rfl) (fun _ _ _ h => h) (Or.inl ⟨rfl, fun _ _ => exec_assign _ rfl _ rfl⟩) hS2 ?_
  (try simp only [Act.put, List.getElem_toArray, List.getElem_cons_zero, List.getElem_cons_succ, List.setIfInBounds_toArray, List.set_cons_zero, List.set_cons_succ])
  refine wpAnyH_take (i := 12) (v := .nilIface) rfl (by kernel_rfl) (by kernel_rfl) (by kernel_rfl) (fun _ _ _ h => h) (Or.inl ⟨rfl, fun _ _ => exec_assign _ rfl _ rfl⟩) hS2 ?_
  (try simp only [Act.put, List.getElem_toArray, List.getElem_cons_zero, List.getElem_cons_succ, List.setIfInBounds_toArray, List.set_cons_zero, List.set_cons_succ])
  refine wpAnyH_done (by kernel_rfl) ?_ _
  have Xx := hid (HX.out.trans (hS2.mono HX.out.size))
  have Bx := hid hbx
  clear hS0 hS1 hS2 hbx hBx hgx HX Rax Rbx Rcx
  rename World => wx
  go_wp2_with fail
  have Ray : Hid (Reads wx.drew wx.drew.heap.size (some ⟨w.heap.size, 0, none⟩) 16 a) := hid ((Blk.reads (Ka.out.below Xx.out.drew Ka.out.lt)).less (by omega))
  have Rby : Hid (Reads wx.drew wx.drew.heap.size (some ⟨w.heap.size + 1, 0, none⟩) 16 b) := hid ((Blk.reads (Kb.out.below Xx.out.drew Kb.out.lt)).less (by omega))
  have Rcy : Hid (Reads wx.drew wx.drew.heap.size (some ⟨w.heap.size + 1 + 1, 0, none⟩) 16 c) := hid ((Blk.reads (Kc.out.below Xx.out.drew Kc.out.lt)).less (by omega))
  refine wp_region_held_drew (S := fun W => Below wx.heap.size wx W) (by kernel_rfl) (Below.refl _ _).drew (fun hS0 => ?_)
  refine wpAnyH_take (i := 0) (v := .int .i64 16) rfl (by kernel_rfl) (by kernel_rfl) (by kernel_rfl) (fun _ _ _ h => h) (Or.inl ⟨rfl, fun _ _ => exec_move _ rfl _ rfl⟩) hS0 ?_
  (try simp only [Act.put, List.getElem_toArray, List.getElem_cons_zero, List.getElem_cons_succ, List.setIfInBounds_toArray, List.set_cons_zero, List.set_cons_succ])
  refine wpAnyH_take (i := 1) (v := .slice (some ⟨w.heap.size + 1 + 1, 0, none⟩) 16 24) rfl (by kernel_rfl) (by kernel_rfl) (by kernel_rfl) (fun _ _ _ h => h) (Or.inl ⟨rfl, fun W _ => exec_cutU 63 _ _ rfl (.pointer (some ⟨w.heap.size + 1 + 1, 0, none⟩)) (.int .i64 16) _ rfl rfl (cut16 ⟨w.heap.size + 1 + 1, 0, none⟩ W)⟩) hS0 ?_
  (try simp only [Act.put, List.getElem_toArray, List.getElem_cons_zero, List.getElem_cons_succ, List.setIfInBounds_toArray, List.set_cons_zero, List.set_cons_succ])
  refine wpAnyH_take (i := 2) (v := .int .i64 16) rfl (by kernel_rfl) (by kernel_rfl) (by kernel_rfl) (fun _ _ _ h => h) (Or.inl ⟨rfl, fun _ _ => exec_move _ rfl _ rfl⟩) hS0 ?_
  (try simp only [Act.put, List.getElem_toArray, List.getElem_cons_zero, List.getElem_cons_succ, List.setIfInBounds_toArray, List.set_cons_zero, List.set_cons_succ])
  refine wpAnyH_take (i := 3) (v := .slice (some ⟨w.heap.size, 0, none⟩) 16 24) rfl (by kernel_rfl) (by kernel_rfl) (by kernel_rfl) (fun _ _ _ h => h) (Or.inl ⟨rfl, fun W _ => exec_cutU 63 _ _ rfl (.pointer (some ⟨w.heap.size, 0, none⟩)) (.int .i64 16) _ rfl rfl (cut16 ⟨w.heap.size, 0, none⟩ W)⟩) hS0 ?_
  (try simp only [Act.put, List.getElem_toArray, List.getElem_cons_zero, List.getElem_cons_succ, List.setIfInBounds_toArray, List.set_cons_zero, List.set_cons_succ])
  refine wpAnyH_take (i := 4) (v := .int .i64 16) rfl (by kernel_rfl) (by kernel_rfl) (by kernel_rfl) (fun _ _ _ h => h) (Or.inl ⟨rfl, fun _ _ => exec_move _ rfl _ rfl⟩) hS0 ?_
  (try simp only [Act.put, List.getElem_toArray, List.getElem_cons_zero, List.getElem_cons_succ, List.setIfInBounds_toArray, List.set_cons_zero, List.set_cons_succ])
  refine wpAnyH_take (i := 5) (v := .slice (some ⟨w.heap.size + 1, 0, none⟩) 16 24) rfl (by kernel_rfl) (by kernel_rfl) (by kernel_rfl) (fun _ _ _ h => h) (Or.inl ⟨rfl, fun W _ => exec_cutU 63 _ _ rfl (.pointer (some ⟨w.heap.size + 1, 0, none⟩)) (.int .i64 16) _ rfl rfl (cut16 ⟨w.heap.size + 1, 0, none⟩ W)⟩) hS0 ?_
  (try simp only [Act.put, List.getElem_toArray, List.getElem_cons_zero, List.getElem_cons_succ, List.setIfInBounds_toArray, List.set_cons_zero, List.set_cons_succ])
  refine wpAnyH_ready (rs := [6]) (by kernel_rfl) (by simp) (AllReadyH.cons rfl (fun K hK => ?_) AllReadyH.nil)
  (try simp only [Act.put, List.getElem_toArray, List.getElem_cons_zero, List.getElem_cons_succ, List.setIfInBounds_toArray, List.set_cons_zero, List.set_cons_succ])
  refine Eq.mpr (if_pos (by rfl)) ?_
  refine wp_bs3S 59 _ _ _  rfl _ _ _  rfl rfl rfl  _ _ (bs3S _ _ _ _ _ _ _ _ _ _ ) ?_
  refine hK.out _ _ (hS0.alloc hS0.size _) (fun hS1 => ?_)
  (try simp only [Act.put, List.getElem_toArray, List.getElem_cons_zero, List.getElem_cons_succ, List.setIfInBounds_toArray, List.set_cons_zero, List.set_cons_succ])
  clear hK K
  refine wpAnyH_ready (rs := [7]) (by kernel_rfl) (by simp) (AllReadyH.cons rfl (fun K hK => ?_) AllReadyH.nil)
  (try simp only [Act.put, List.getElem_toArray, List.getElem_cons_zero, List.getElem_cons_succ, List.setIfInBounds_toArray, List.set_cons_zero, List.set_cons_succ])
  refine Eq.mpr (if_pos (by rfl)) ?_
  go_simp
  refine (join3 1 16 (some ⟨w.heap.size + 1 + 1, 0, none⟩) (some ⟨w.heap.size, 0, none⟩) (some ⟨w.heap.size + 1, 0, none⟩) 24 24 24  c a b _ (⟨.inl rfl, .inl rfl⟩) Rcy.out Ray.out Rby.out Hc.out Ha.out Hb.out).mono ?_
  rintro e wq2 ⟨gy, rfl, hby, hgy, hBy⟩
  refine hK.out _ _ (hS0.trans (hBy.mono hS0.size)) (fun hS2 => ?_)
  (try simp only [Act.put, List.getElem_toArray, List.getElem_cons_zero, List.getElem_cons_succ, List.setIfInBounds_toArray, List.set_cons_zero, List.set_cons_succ])
  clear hK K
  refine wpAnyH_take (i := 8) (v := .tuple #[.slice (some ⟨gy, 0, none⟩) 16 16, .nilIface]) rfl (by kernel_rfl) (by kernel_rfl) (by kernel_rfl) (fun _ _ _ h => h) (Or.inl ⟨rfl, fun _ _ => exec_move _ rfl _ rfl⟩) hS2 ?_
  (try simp only [Act.put, List.getElem_toArray, List.getElem_cons_zero, List.getElem_cons_succ, List.setIfInBounds_toArray, List.set_cons_zero, List.set_cons_succ])
  refine wpAnyH_take (i := 9) (v := .slice (some ⟨gy, 0, none⟩) 16 16) rfl (by kernel_rfl) (by kernel_rfl) (by kernel_rfl) (fun _ _ _ h => h) (Or.inl ⟨rfl, fun _ _ => exec_extract _ 0 rfl #[.slice (some ⟨gy, 0, none⟩) 16 16, .nilIface] rfl _ rfl⟩) hS2 ?_
  (try simp only [Act.put, List.getElem_toArray, List.getElem_cons_zero, List.getElem_cons_succ, List.setIfInBounds_toArray, List.set_cons_zero, List.set_cons_succ])
  refine wpAnyH_take (i := 10) (v := .nilIface) rfl (by kernel_rfl) (by kernel_rfl) (by kernel_rfl) (fun _ _ _ h => h) (Or.inl ⟨rfl, fun _ _ => exec_extract _ 1 rfl #[.slice (some ⟨gy, 0, none⟩) 16 16, .nilIface] rfl _ rfl⟩) hS2 ?_
  (try simp only [Act.put, List.getElem_toArray, List.getElem_cons_zero, List.getElem_cons_succ, List.setIfInBounds_toArray, List.set_cons_zero, List.set_cons_succ])
  refine wpAnyH_take (i := 11) (v := .slice (some ⟨gy, 0, none⟩) 16 16) rfl (by kernel_rfl) (by kernel_rfl) (by kernel_rfl) (fun _ _ _ h => h) (Or.inl ⟨rfl, fun _ _ => exec_assign _ rfl _ rfl⟩) hS2 ?_
  (try simp only [Act.put, List.getElem_toArray, List.getElem_cons_zero, List.getElem_cons_succ, List.setIfInBounds_toArray, List.set_cons_zero, List.set_cons_succ])
  refine wpAnyH_take (i := 12) (v := .nilIface) rfl (by kernel_rfl) (by kernel_rfl) (by kernel_rfl) (fun _ _ _ h => h) (Or.inl ⟨rfl, fun _ _ => exec_assign _ rfl _ rfl⟩) hS2 ?_
  (try simp only [Act.put, List.getElem_toArray, List.getElem_cons_zero, List.getElem_cons_succ, List.setIfInBounds_toArray, List.set_cons_zero, List.set_cons_succ])
  refine wpAnyH_done (by kernel_rfl) ?_ _
  have Xy := hid (Xx.out.trans (hS2.mono Xx.out.size))
  have By := hid hby
  have Bx := hid (Bx.out.below hS2 Bx.out.lt)
  clear hS0 hS1 hS2 hby hBy hgy Xx Ray Rby Rcy
  rename World => wy
  go_wp2_with fail
  have Raz : Hid (Reads wy.drew wy.drew.heap.size (some ⟨w.heap.size, 0, none⟩) 16 a) := hid ((Blk.reads (Ka.out.below Xy.out.drew Ka.out.lt)).less (by omega))
  have Rbz : Hid (Reads wy.drew wy.drew.heap.size (some ⟨w.heap.size + 1, 0, none⟩) 16 b) := hid ((Blk.reads (Kb.out.below Xy.out.drew Kb.out.lt)).less (by omega))
  refine wp_region_held_drew (S := fun W => Below wy.heap.size wy W) (by kernel_rfl) (Below.refl _ _).drew (fun hS0 => ?_)
  refine wpAnyH_take (i := 0) (v := .int .i64 16) rfl (by kernel_rfl) (by kernel_rfl) (by kernel_rfl) (fun _ _ _ h => h) (Or.inl ⟨rfl, fun _ _ => exec_move _ rfl _ rfl⟩) hS0 ?_
  (try simp only [Act.put, List.getElem_toArray, List.getElem_cons_zero, List.getElem_cons_succ, List.setIfInBounds_toArray, List.set_cons_zero, List.set_cons_succ])
  refine wpAnyH_take (i := 1) (v := .slice (some ⟨w.heap.size, 0, none⟩) 16 24) rfl (by kernel_rfl) (by kernel_rfl) (by kernel_rfl) (fun _ _ _ h => h) (Or.inl ⟨rfl, fun W _ => exec_cutU 63 _ _ rfl (.pointer (some ⟨w.heap.size, 0, none⟩)) (.int .i64 16) _ rfl rfl (cut16 ⟨w.heap.size, 0, none⟩ W)⟩) hS0 ?_
  (try simp only [Act.put, List.getElem_toArray, List.getElem_cons_zero, List.getElem_cons_succ, List.setIfInBounds_toArray, List.set_cons_zero, List.set_cons_succ])
  refine wpAnyH_take (i := 2) (v := .int .i64 16) rfl (by kernel_rfl) (by kernel_rfl) (by kernel_rfl) (fun _ _ _ h => h) (Or.inl ⟨rfl, fun _ _ => exec_move _ rfl _ rfl⟩) hS0 ?_
  (try simp only [Act.put, List.getElem_toArray, List.getElem_cons_zero, List.getElem_cons_succ, List.setIfInBounds_toArray, List.set_cons_zero, List.set_cons_succ])
  refine wpAnyH_take (i := 3) (v := .slice (some ⟨w.heap.size + 1, 0, none⟩) 16 24) rfl (by kernel_rfl) (by kernel_rfl) (by kernel_rfl) (fun _ _ _ h => h) (Or.inl ⟨rfl, fun W _ => exec_cutU 63 _ _ rfl (.pointer (some ⟨w.heap.size + 1, 0, none⟩)) (.int .i64 16) _ rfl rfl (cut16 ⟨w.heap.size + 1, 0, none⟩ W)⟩) hS0 ?_
  (try simp only [Act.put, List.getElem_toArray, List.getElem_cons_zero, List.getElem_cons_succ, List.setIfInBounds_toArray, List.set_cons_zero, List.set_cons_succ])
  refine wpAnyH_take (i := 4) (v := .int .i64 16) rfl (by kernel_rfl) (by kernel_rfl) (by kernel_rfl) (fun _ _ _ h => h) (Or.inl ⟨rfl, fun _ _ => exec_move _ rfl _ rfl⟩) hS0 ?_
  (try simp only [Act.put, List.getElem_toArray, List.getElem_cons_zero, List.getElem_cons_succ, List.setIfInBounds_toArray, List.set_cons_zero, List.set_cons_succ])
  refine wpAnyH_take (i := 5) (v := .slice (some ⟨w.heap.size + 1, 0, none⟩) 16 24) rfl (by kernel_rfl) (by kernel_rfl) (by kernel_rfl) (fun _ _ _ h => h) (Or.inl ⟨rfl, fun W _ => exec_cutU 63 _ _ rfl (.pointer (some ⟨w.heap.size + 1, 0, none⟩)) (.int .i64 16) _ rfl rfl (cut16 ⟨w.heap.size + 1, 0, none⟩ W)⟩) hS0 ?_
  (try simp only [Act.put, List.getElem_toArray, List.getElem_cons_zero, List.getElem_cons_succ, List.setIfInBounds_toArray, List.set_cons_zero, List.set_cons_succ])
  refine wpAnyH_ready (rs := [6]) (by kernel_rfl) (by simp) (AllReadyH.cons rfl (fun K hK => ?_) AllReadyH.nil)
  (try simp only [Act.put, List.getElem_toArray, List.getElem_cons_zero, List.getElem_cons_succ, List.setIfInBounds_toArray, List.set_cons_zero, List.set_cons_succ])
  refine Eq.mpr (if_pos (by rfl)) ?_
  refine wp_bs3S 59 _ _ _  rfl _ _ _  rfl rfl rfl  _ _ (bs3S _ _ _ _ _ _ _ _ _ _ ) ?_
  refine hK.out _ _ (hS0.alloc hS0.size _) (fun hS1 => ?_)
  (try simp only [Act.put, List.getElem_toArray, List.getElem_cons_zero, List.getElem_cons_succ, List.setIfInBounds_toArray, List.set_cons_zero, List.set_cons_succ])
  clear hK K
  refine wpAnyH_ready (rs := [7]) (by kernel_rfl) (by simp) (AllReadyH.cons rfl (fun K hK => ?_) AllReadyH.nil)
  (try simp only [Act.put, List.getElem_toArray, List.getElem_cons_zero, List.getElem_cons_succ, List.setIfInBounds_toArray, List.set_cons_zero, List.set_cons_succ])
  refine Eq.mpr (if_pos (by rfl)) ?_
  go_simp
  refine (join3 1 16 (some ⟨w.heap.size, 0, none⟩) (some ⟨w.heap.size + 1, 0, none⟩) (some ⟨w.heap.size + 1, 0, none⟩) 24 24 24  a b b _ (⟨.inl rfl, .inl rfl⟩) Raz.out Rbz.out Rbz.out Ha.out Hb.out Hb.out).mono ?_
  rintro e wq2 ⟨gz, rfl, hbz, hgz, hBz⟩
  refine hK.out _ _ (hS0.trans (hBz.mono hS0.size)) (fun hS2 => ?_)
  (try simp only [Act.put, List.getElem_toArray, List.getElem_cons_zero, List.getElem_cons_succ, List.setIfInBounds_toArray, List.set_cons_zero, List.set_cons_succ])
  clear hK K
  refine wpAnyH_take (i := 8) (v := .tuple #[.slice (some ⟨gz, 0, none⟩) 16 16, .nilIface]) rfl (by kernel_rfl) (by kernel_rfl) (by kernel_rfl) (fun _ _ _ h => h) (Or.inl ⟨rfl, fun _ _ => exec_move _ rfl _ rfl⟩) hS2 ?_
  (try simp only [Act.put, List.getElem_toArray, List.getElem_cons_zero, List.getElem_cons_succ, List.setIfInBounds_toArray, List.set_cons_zero, List.set_cons_succ])
  refine wpAnyH_take (i := 9) (v := .slice (some ⟨gz, 0, none⟩) 16 16) rfl (by kernel_rfl) (by kernel_rfl) (by kernel_rfl) (fun _ _ _ h => h) (Or.inl ⟨rfl, fun _ _ => exec_extract _ 0 rfl #[.slice (some ⟨gz, 0, none⟩) 16 16, .nilIface] rfl _ rfl⟩) hS2 ?_
  (try simp only [Act.put, List.getElem_toArray, List.getElem_cons_zero, List.getElem_cons_succ, List.setIfInBounds_toArray, List.set_cons_zero, List.set_cons_succ])
  refine wpAnyH_take (i := 10) (v := .nilIface) rfl (by kernel_rfl) (by kernel_rfl) (by kernel_rfl) (fun _ _ _ h => h) (Or.inl ⟨rfl, fun _ _ => exec_extract _ 1 rfl #[.slice (some ⟨gz, 0, none⟩) 16 16, .nilIface] rfl _ rfl⟩) hS2 ?_
  (try simp only [Act.put, List.getElem_toArray, List.getElem_cons_zero, List.getElem_cons_succ, List.setIfInBounds_toArray, List.set_cons_zero, List.set_cons_succ])
  refine wpAnyH_take (i := 11) (v := .slice (some ⟨gz, 0, none⟩) 16 16) rfl (by kernel_rfl) (by kernel_rfl) (by kernel_rfl) (fun _ _ _ h => h) (Or.inl ⟨rfl, fun _ _ => exec_assign _ rfl _ rfl⟩) hS2 ?_
  (try simp only [Act.put, List.getElem_toArray, List.getElem_cons_zero, List.getElem_cons_succ, List.setIfInBounds_toArray, List.set_cons_zero, List.set_cons_succ])
  refine wpAnyH_take (i := 12) (v := .nilIface) rfl (by kernel_rfl) (by kernel_rfl) (by kernel_rfl) (fun _ _ _ h => h) (Or.inl ⟨rfl, fun _ _ => exec_assign _ rfl _ rfl⟩) hS2 ?_
  (try simp only [Act.put, List.getElem_toArray, List.getElem_cons_zero, List.getElem_cons_succ, List.setIfInBounds_toArray, List.set_cons_zero, List.set_cons_succ])
  refine wpAnyH_done (by kernel_rfl) ?_ _
  have Xz := hid (Xy.out.trans (hS2.mono Xy.out.size))
  have Bz := hid hbz
  have Bx := hid (Bx.out.below hS2 Bx.out.lt)
  have By := hid (By.out.below hS2 By.out.lt)
  clear hS0 hS1 hS2 hbz hBz hgz Xy Raz Rbz
  rename World => wz
  go_wp2_with fail
  have Rau : Hid (Reads wz.drew wz.drew.heap.size (some ⟨w.heap.size, 0, none⟩) 16 a) := hid ((Blk.reads (Ka.out.below Xz.out.drew Ka.out.lt)).less (by omega))
  have Rbu : Hid (Reads wz.drew wz.drew.heap.size (some ⟨w.heap.size + 1, 0, none⟩) 16 b) := hid ((Blk.reads (Kb.out.below Xz.out.drew Kb.out.lt)).less (by omega))
  refine wp_region_held_drew (S := fun W => Below wz.heap.size wz W) (by kernel_rfl) (Below.refl _ _).drew (fun hS0 => ?_)
  refine wpAnyH_take (i := 0) (v := .int .i64 16) rfl (by kernel_rfl) (by kernel_rfl) (by kernel_rfl) (fun _ _ _ h => h) (Or.inl ⟨rfl, fun _ _ => exec_move _ rfl _ rfl⟩) hS0 ?_
  (try simp only [Act.put, List.getElem_toArray, List.getElem_cons_zero, List.getElem_cons_succ, List.setIfInBounds_toArray, List.set_cons_zero, List.set_cons_succ])
  refine wpAnyH_take (i := 1) (v := .slice (some ⟨w.heap.size, 0, none⟩) 16 24) rfl (by kernel_rfl) (by kernel_rfl) (by kernel_rfl) (fun _ _ _ h => h) (Or.inl ⟨rfl, fun W _ => exec_cutU 63 _ _ rfl (.pointer (some ⟨w.heap.size, 0, none⟩)) (.int .i64 16) _ rfl rfl (cut16 ⟨w.heap.size, 0, none⟩ W)⟩) hS0 ?_
  (try simp only [Act.put, List.getElem_toArray, List.getElem_cons_zero, List.getElem_cons_succ, List.setIfInBounds_toArray, List.set_cons_zero, List.set_cons_succ])
  refine wpAnyH_take (i := 2) (v := .int .i64 16) rfl (by kernel_rfl) (by kernel_rfl) (by kernel_rfl) (fun _ _ _ h => h) (Or.inl ⟨rfl, fun _ _ => exec_move _ rfl _ rfl⟩) hS0 ?_
  (try simp only [Act.put, List.getElem_toArray, List.getElem_cons_zero, List.getElem_cons_succ, List.setIfInBounds_toArray, List.set_cons_zero, List.set_cons_succ])
  refine wpAnyH_take (i := 3) (v := .slice (some ⟨w.heap.size + 1, 0, none⟩) 16 24) rfl (by kernel_rfl) (by kernel_rfl) (by kernel_rfl) (fun _ _ _ h => h) (Or.inl ⟨rfl, fun W _ => exec_cutU 63 _ _ rfl (.pointer (some ⟨w.heap.size + 1, 0, none⟩)) (.int .i64 16) _ rfl rfl (cut16 ⟨w.heap.size + 1, 0, none⟩ W)⟩) hS0 ?_
  (try simp only [Act.put, List.getElem_toArray, List.getElem_cons_zero, List.getElem_cons_succ, List.setIfInBounds_toArray, List.set_cons_zero, List.set_cons_succ])
  refine wpAnyH_ready (rs := [4]) (by kernel_rfl) (by simp) (AllReadyH.cons rfl (fun K hK => ?_) AllReadyH.nil)
  (try simp only [Act.put, List.getElem_toArray, List.getElem_cons_zero, List.getElem_cons_succ, List.setIfInBounds_toArray, List.set_cons_zero, List.set_cons_succ])
  refine Eq.mpr (if_pos (by rfl)) ?_
  refine wp_bs2S 59 _ _  rfl _ _  rfl rfl  _ _ (bs2S _ _ _ _ _ _ _ ) ?_
  refine hK.out _ _ (hS0.alloc hS0.size _) (fun hS1 => ?_)
  (try simp only [Act.put, List.getElem_toArray, List.getElem_cons_zero, List.getElem_cons_succ, List.setIfInBounds_toArray, List.set_cons_zero, List.set_cons_succ])
  clear hK K
  refine wpAnyH_ready (rs := [5]) (by kernel_rfl) (by simp) (AllReadyH.cons rfl (fun K hK => ?_) AllReadyH.nil)
  (try simp only [Act.put, List.getElem_toArray, List.getElem_cons_zero, List.getElem_cons_succ, List.setIfInBounds_toArray, List.set_cons_zero, List.set_cons_succ])
  refine Eq.mpr (if_pos (by rfl)) ?_
  go_simp
  refine (join2 2 16 (some ⟨w.heap.size, 0, none⟩) (some ⟨w.heap.size + 1, 0, none⟩) 24 24  a b _ (⟨.inr rfl, .inl rfl⟩) Rau.out Rbu.out Ha.out Hb.out).mono ?_
  rintro e wq2 ⟨gu, rfl, hbu, hgu, hBu⟩
  refine hK.out _ _ (hS0.trans (hBu.mono hS0.size)) (fun hS2 => ?_)
  (try simp only [Act.put, List.getElem_toArray, List.getElem_cons_zero, List.getElem_cons_succ, List.setIfInBounds_toArray, List.set_cons_zero, List.set_cons_succ])
  clear hK K
  refine wpAnyH_take (i := 6) (v := .tuple #[.slice (some ⟨gu, 0, none⟩) 16 16, .nilIface]) rfl (by kernel_rfl) (by kernel_rfl) (by kernel_rfl) (fun _ _ _ h => h) (Or.inl ⟨rfl, fun _ _ => exec_move _ rfl _ rfl⟩) hS2 ?_
  (try simp only [Act.put, List.getElem_toArray, List.getElem_cons_zero, List.getElem_cons_succ, List.setIfInBounds_toArray, List.set_cons_zero, List.set_cons_succ])
  refine wpAnyH_take (i := 7) (v := .slice (some ⟨gu, 0, none⟩) 16 16) rfl (by kernel_rfl) (by kernel_rfl) (by kernel_rfl) (fun _ _ _ h => h) (Or.inl ⟨rfl, fun _ _ => exec_extract _ 0 rfl #[.slice (some ⟨gu, 0, none⟩) 16 16, .nilIface] rfl _ rfl⟩) hS2 ?_
  (try simp only [Act.put, List.getElem_toArray, List.getElem_cons_zero, List.getElem_cons_succ, List.setIfInBounds_toArray, List.set_cons_zero, List.set_cons_succ])
  refine wpAnyH_take (i := 8) (v := .nilIface) rfl (by kernel_rfl) (by kernel_rfl) (by kernel_rfl) (fun _ _ _ h => h) (Or.inl ⟨rfl, fun _ _ => exec_extract _ 1 rfl #[.slice (some ⟨gu, 0, none⟩) 16 16, .nilIface] rfl _ rfl⟩) hS2 ?_
  (try simp only [Act.put, List.getElem_toArray, List.getElem_cons_zero, List.getElem_cons_succ, List.setIfInBounds_toArray, List.set_cons_zero, List.set_cons_succ])
  refine wpAnyH_take (i := 9) (v := .slice (some ⟨gu, 0, none⟩) 16 16) rfl (by kernel_rfl) (by kernel_rfl) (by kernel_rfl) (fun _ _ _ h => h) (Or.inl ⟨rfl, fun _ _ => exec_assign _ rfl _ rfl⟩) hS2 ?_
  (try simp only [Act.put, List.getElem_toArray, List.getElem_cons_zero, List.getElem_cons_succ, List.setIfInBounds_toArray, List.set_cons_zero, List.set_cons_succ])
  refine wpAnyH_take (i := 10) (v := .nilIface) rfl (by kernel_rfl) (by kernel_rfl) (by kernel_rfl) (fun _ _ _ h => h) (Or.inl ⟨rfl, fun _ _ => exec_assign _ rfl _ rfl⟩) hS2 ?_
  (try simp only [Act.put, List.getElem_toArray, List.getElem_cons_zero, List.getElem_cons_succ, List.setIfInBounds_toArray, List.set_cons_zero, List.set_cons_succ])
  refine wpAnyH_done (by kernel_rfl) ?_ _
  have Xu := hid (Xz.out.trans (hS2.mono Xz.out.size))
  have Bu := hid hbu
  have Bx := hid (Bx.out.below hS2 Bx.out.lt)
  have By := hid (By.out.below hS2 By.out.lt)
  have Bz := hid (Bz.out.below hS2 Bz.out.lt)
  clear hS0 hS1 hS2 hbu hBu hgu Xz Rau Rbu
  rename World => wu
  go_wp2_with fail
  have Rav : Hid (Reads wu.drew wu.drew.heap.size (some ⟨w.heap.size, 0, none⟩) 16 a) := hid ((Blk.reads (Ka.out.below Xu.out.drew Ka.out.lt)).less (by omega))
  have Rcv : Hid (Reads wu.drew wu.drew.heap.size (some ⟨w.heap.size + 1 + 1, 0, none⟩) 16 c) := hid ((Blk.reads (Kc.out.below Xu.out.drew Kc.out.lt)).less (by omega))
  refine wp_region_held_drew (S := fun W => Below wu.heap.size wu W) (by kernel_rfl) (Below.refl _ _).drew (fun hS0 => ?_)
  refine wpAnyH_take (i := 0) (v := .int .i64 16) rfl (by kernel_rfl) (by kernel_rfl) (by kernel_rfl) (fun _ _ _ h => h) (Or.inl ⟨rfl, fun _ _ => exec_move _ rfl _ rfl⟩) hS0 ?_
  (try simp only [Act.put, List.getElem_toArray, List.getElem_cons_zero, List.getElem_cons_succ, List.setIfInBounds_toArray, List.set_cons_zero, List.set_cons_succ])
  refine wpAnyH_take (i := 1) (v := .slice (some ⟨w.heap.size, 0, none⟩) 16 24) rfl (by kernel_rfl) (by kernel_rfl) (by kernel_rfl) (fun _ _ _ h => h) (Or.inl ⟨rfl, fun W _ => exec_cutU 63 _ _ rfl (.pointer (some ⟨w.heap.size, 0, none⟩)) (.int .i64 16) _ rfl rfl (cut16 ⟨w.heap.size, 0, none⟩ W)⟩) hS0 ?_
  (try simp only [Act.put, List.getElem_toArray, List.getElem_cons_zero, List.getElem_cons_succ, List.setIfInBounds_toArray, List.set_cons_zero, List.set_cons_succ])
  refine wpAnyH_take (i := 2) (v := .int .i64 16) rfl (by kernel_rfl) (by kernel_rfl) (by kernel_rfl) (fun _ _ _ h => h) (Or.inl ⟨rfl, fun _ _ => exec_move _ rfl _ rfl⟩) hS0 ?_
  (try simp only [Act.put, List.getElem_toArray, List.getElem_cons_zero, List.getElem_cons_succ, List.setIfInBounds_toArray, List.set_cons_zero, List.set_cons_succ])
  refine wpAnyH_take (i := 3) (v := .slice (some ⟨w.heap.size + 1 + 1, 0, none⟩) 16 24) rfl (by kernel_rfl) (by kernel_rfl) (by kernel_rfl) (fun _ _ _ h => h) (Or.inl ⟨rfl, fun W _ => exec_cutU 63 _ _ rfl (.pointer (some ⟨w.heap.size + 1 + 1, 0, none⟩)) (.int .i64 16) _ rfl rfl (cut16 ⟨w.heap.size + 1 + 1, 0, none⟩ W)⟩) hS0 ?_
  (try simp only [Act.put, List.getElem_toArray, List.getElem_cons_zero, List.getElem_cons_succ, List.setIfInBounds_toArray, List.set_cons_zero, List.set_cons_succ])
  refine wpAnyH_ready (rs := [4]) (by kernel_rfl) (by simp) (AllReadyH.cons rfl (fun K hK => ?_) AllReadyH.nil)
  (try simp only [Act.put, List.getElem_toArray, List.getElem_cons_zero, List.getElem_cons_succ, List.setIfInBounds_toArray, List.set_cons_zero, List.set_cons_succ])
  refine Eq.mpr (if_pos (by rfl)) ?_
  refine wp_bs2S 59 _ _  rfl _ _  rfl rfl  _ _ (bs2S _ _ _ _ _ _ _ ) ?_
  refine hK.out _ _ (hS0.alloc hS0.size _) (fun hS1 => ?_)
  (try simp only [Act.put, List.getElem_toArray, List.getElem_cons_zero, List.getElem_cons_succ, List.setIfInBounds_toArray, List.set_cons_zero, List.set_cons_succ])
  clear hK K
  refine wpAnyH_ready (rs := [5]) (by kernel_rfl) (by simp) (AllReadyH.cons rfl (fun K hK => ?_) AllReadyH.nil)
  (try simp only [Act.put, List.getElem_toArray, List.getElem_cons_zero, List.getElem_cons_succ, List.setIfInBounds_toArray, List.set_cons_zero, List.set_cons_succ])
  refine Eq.mpr (if_pos (by rfl)) ?_
  go_simp
  refine (join2 2 16 (some ⟨w.heap.size, 0, none⟩) (some ⟨w.heap.size + 1 + 1, 0, none⟩) 24 24  a c _ (⟨.inr rfl, .inl rfl⟩) Rav.out Rcv.out Ha.out Hc.out).mono ?_
  rintro e wq2 ⟨gv, rfl, hbv, hgv, hBv⟩
  refine hK.out _ _ (hS0.trans (hBv.mono hS0.size)) (fun hS2 => ?_)
  (try simp only [Act.put, List.getElem_toArray, List.getElem_cons_zero, List.getElem_cons_succ, List.setIfInBounds_toArray, List.set_cons_zero, List.set_cons_succ])
  clear hK K
  refine wpAnyH_take (i := 6) (v := .tuple #[.slice (some ⟨gv, 0, none⟩) 16 16, .nilIface]) rfl (by kernel_rfl) (by kernel_rfl) (by kernel_rfl) (fun _ _ _ h => h) (Or.inl ⟨rfl, fun _ _ => exec_move _ rfl _ rfl⟩) hS2 ?_
  (try simp only [Act.put, List.getElem_toArray, List.getElem_cons_zero, List.getElem_cons_succ, List.setIfInBounds_toArray, List.set_cons_zero, List.set_cons_succ])
  refine wpAnyH_take (i := 7) (v := .slice (some ⟨gv, 0, none⟩) 16 16) rfl (by kernel_rfl) (by kernel_rfl) (by kernel_rfl) (fun _ _ _ h => h) (Or.inl ⟨rfl, fun _ _ => exec_extract _ 0 rfl #[.slice (some ⟨gv, 0, none⟩) 16 16, .nilIface] rfl _ rfl⟩) hS2 ?_
  (try simp only [Act.put, List.getElem_toArray, List.getElem_cons_zero, List.getElem_cons_succ, List.setIfInBounds_toArray, List.set_cons_zero, List.set_cons_succ])
  refine wpAnyH_take (i := 8) (v := .nilIface) rfl (by kernel_rfl) (by kernel_rfl) (by kernel_rfl) (fun _ _ _ h => h) (Or.inl ⟨rfl, fun _ _ => exec_extract _ 1 rfl #[.slice (some ⟨gv, 0, none⟩) 16 16, .nilIface] rfl _ rfl⟩) hS2 ?_
  (try simp only [Act.put, List.getElem_toArray, List.getElem_cons_zero, List.getElem_cons_succ, List.setIfInBounds_toArray, List.set_cons_zero, List.set_cons_succ])
  refine wpAnyH_take (i := 9) (v := .slice (some ⟨gv, 0, none⟩) 16 16) rfl (by kernel_rfl) (by kernel_rfl) (by kernel_rfl) (fun _ _ _ h => h) (Or.inl ⟨rfl, fun _ _ => exec_assign _ rfl _ rfl⟩) hS2 ?_
  (try simp only [Act.put, List.getElem_toArray, List.getElem_cons_zero, List.getElem_cons_succ, List.setIfInBounds_toArray, List.set_cons_zero, List.set_cons_succ])
  refine wpAnyH_take (i := 10) (v := .nilIface) rfl (by kernel_rfl) (by kernel_rfl) (by kernel_rfl) (fun _ _ _ h => h) (Or.inl ⟨rfl, fun _ _ => exec_assign _ rfl _ rfl⟩) hS2 ?_
  (try simp only [Act.put, List.getElem_toArray, List.getElem_cons_zero, List.getElem_cons_succ, List.setIfInBounds_toArray, List.set_cons_zero, List.set_cons_succ])
  refine wpAnyH_done (by kernel_rfl) ?_ _
  have Xv := hid (Xu.out.trans (hS2.mono Xu.out.size))
  have Bv := hid hbv
  have Bx := hid (Bx.out.below hS2 Bx.out.lt)
  have By := hid (By.out.below hS2 By.out.lt)
  have Bz := hid (Bz.out.below hS2 Bz.out.lt)
  have Bu := hid (Bu.out.below hS2 Bu.out.lt)
  clear hS0 hS1 hS2 hbv hBv hgv Xu Rav Rcv
  rename World => wv
  go_wp2_with fail
  refine wp_region_held_drew (S := fun W => Below wv.heap.size wv W) (by kernel_rfl) (Below.refl _ _).drew (fun hS0 => ?_)
  refine wpAnyH_ready (rs := [0]) (by kernel_rfl) (by simp) (AllReadyH.cons rfl (fun K hK => ?_) AllReadyH.nil)
  (try simp only [Act.put, List.getElem_toArray, List.getElem_cons_zero, List.getElem_cons_succ, List.setIfInBounds_toArray, List.set_cons_zero, List.set_cons_succ])
  refine Eq.mpr (if_pos (by rfl)) ?_
  go_simp
  refine (awake9_any _ (HG.out.below (HB3.out.trans ((Xv.out.trans (hS0.mono Xv.out.size)).mono HB3.out.size)))).mono ?_
  rintro e wq1 ⟨rfl, hQ1⟩
  refine hK.out _ _ (hS0.trans (hQ1.mono hS0.size)) (fun hS1 => ?_)
  (try simp only [Act.put, List.getElem_toArray, List.getElem_cons_zero, List.getElem_cons_succ, List.setIfInBounds_toArray, List.set_cons_zero, List.set_cons_succ])
  clear hK K
  refine wpAnyH_take (i := 1) (v := .bool true) rfl (by kernel_rfl) (by kernel_rfl) (by kernel_rfl) (fun _ _ _ h => h) (Or.inl ⟨rfl, fun _ _ => exec_move _ rfl _ rfl⟩) hS1 ?_
  (try simp only [Act.put, List.getElem_toArray, List.getElem_cons_zero, List.getElem_cons_succ, List.setIfInBounds_toArray, List.set_cons_zero, List.set_cons_succ])
  refine wpAnyH_take (i := 2) (v := .nilIface) rfl (by kernel_rfl) (by kernel_rfl) (by kernel_rfl) (fun _ _ _ h => h) (Or.inl ⟨rfl, fun _ _ => exec_move _ rfl _ rfl⟩) hS1 ?_
  (try simp only [Act.put, List.getElem_toArray, List.getElem_cons_zero, List.getElem_cons_succ, List.setIfInBounds_toArray, List.set_cons_zero, List.set_cons_succ])
  refine wpAnyH_take (i := 3) (v := .bool true) rfl (by kernel_rfl) (by kernel_rfl) (by kernel_rfl) (fun _ _ _ h => h) (Or.inl ⟨rfl, fun W _ => by go_simp⟩) hS1 ?_
  (try simp only [Act.put, List.getElem_toArray, List.getElem_cons_zero, List.getElem_cons_succ, List.setIfInBounds_toArray, List.set_cons_zero, List.set_cons_succ])
  refine wpAnyH_take (i := 4) (v := .bool true) rfl (by kernel_rfl) (by kernel_rfl) (by kernel_rfl) (fun _ _ _ h => h) (Or.inl ⟨rfl, fun W _ => by go_simp⟩) hS1 ?_
  (try simp only [Act.put, List.getElem_toArray, List.getElem_cons_zero, List.getElem_cons_succ, List.setIfInBounds_toArray, List.set_cons_zero, List.set_cons_succ])
  refine wpAnyH_take (i := 5) (v := .bool true) rfl (by kernel_rfl) (by kernel_rfl) (by kernel_rfl) (fun _ _ _ h => h) (Or.inl ⟨rfl, fun _ _ => exec_move _ rfl _ rfl⟩) hS1 ?_
  (try simp only [Act.put, List.getElem_toArray, List.getElem_cons_zero, List.getElem_cons_succ, List.setIfInBounds_toArray, List.set_cons_zero, List.set_cons_succ])
  refine wpAnyH_take (i := 6) (v := .nilIface) rfl (by kernel_rfl) (by kernel_rfl) (by kernel_rfl) (fun _ _ _ h => h) (Or.inl ⟨rfl, fun _ _ => exec_move _ rfl _ rfl⟩) hS1 ?_
  (try simp only [Act.put, List.getElem_toArray, List.getElem_cons_zero, List.getElem_cons_succ, List.setIfInBounds_toArray, List.set_cons_zero, List.set_cons_succ])
  refine wpAnyH_take (i := 7) (v := .bool true) rfl (by kernel_rfl) (by kernel_rfl) (by kernel_rfl) (fun _ _ _ h => h) (Or.inl ⟨rfl, fun W _ => by go_simp⟩) hS1 ?_
  (try simp only [Act.put, List.getElem_toArray, List.getElem_cons_zero, List.getElem_cons_succ, List.setIfInBounds_toArray, List.set_cons_zero, List.set_cons_succ])
  refine wpAnyH_take (i := 8) (v := .bool true) rfl (by kernel_rfl) (by kernel_rfl) (by kernel_rfl) (fun _ _ _ h => h) (Or.inl ⟨rfl, fun W _ => by go_simp⟩) hS1 ?_
  (try simp only [Act.put, List.getElem_toArray, List.getElem_cons_zero, List.getElem_cons_succ, List.setIfInBounds_toArray, List.set_cons_zero, List.set_cons_succ])
  refine wpAnyH_take (i := 9) (v := .bool true) rfl (by kernel_rfl) (by kernel_rfl) (by kernel_rfl) (fun _ _ _ h => h) (Or.inl ⟨rfl, fun _ _ => exec_move _ rfl _ rfl⟩) hS1 ?_
  (try simp only [Act.put, List.getElem_toArray, List.getElem_cons_zero, List.getElem_cons_succ, List.setIfInBounds_toArray, List.set_cons_zero, List.set_cons_succ])
  refine wpAnyH_take (i := 10) (v := .nilIface) rfl (by kernel_rfl) (by kernel_rfl) (by kernel_rfl) (fun _ _ _ h => h) (Or.inl ⟨rfl, fun _ _ => exec_move _ rfl _ rfl⟩) hS1 ?_
  (try simp only [Act.put, List.getElem_toArray, List.getElem_cons_zero, List.getElem_cons_succ, List.setIfInBounds_toArray, List.set_cons_zero, List.set_cons_succ])
  refine wpAnyH_take (i := 11) (v := .bool true) rfl (by kernel_rfl) (by kernel_rfl) (by kernel_rfl) (fun _ _ _ h => h) (Or.inl ⟨rfl, fun W _ => by go_simp⟩) hS1 ?_
  (try simp only [Act.put, List.getElem_toArray, List.getElem_cons_zero, List.getElem_cons_succ, List.setIfInBounds_toArray, List.set_cons_zero, List.set_cons_succ])
  refine wpAnyH_take (i := 12) (v := .bool true) rfl (by kernel_rfl) (by kernel_rfl) (by kernel_rfl) (fun _ _ _ h => h) (Or.inl ⟨rfl, fun W _ => by go_simp⟩) hS1 ?_
  (try simp only [Act.put, List.getElem_toArray, List.getElem_cons_zero, List.getElem_cons_succ, List.setIfInBounds_toArray, List.set_cons_zero, List.set_cons_succ])
  refine wpAnyH_take (i := 13) (v := .bool true) rfl (by kernel_rfl) (by kernel_rfl) (by kernel_rfl) (fun _ _ _ h => h) (Or.inl ⟨rfl, fun _ _ => exec_move _ rfl _ rfl⟩) hS1 ?_
  (try simp only [Act.put, List.getElem_toArray, List.getElem_cons_zero, List.getElem_cons_succ, List.setIfInBounds_toArray, List.set_cons_zero, List.set_cons_succ])
  refine wpAnyH_take (i := 14) (v := .nilIface) rfl (by kernel_rfl) (by kernel_rfl) (by kernel_rfl) (fun _ _ _ h => h) (Or.inl ⟨rfl, fun _ _ => exec_move _ rfl _ rfl⟩) hS1 ?_
  (try simp only [Act.put, List.getElem_toArray, List.getElem_cons_zero, List.getElem_cons_succ, List.setIfInBounds_toArray, List.set_cons_zero, List.set_cons_succ])
  refine wpAnyH_take (i := 15) (v := .bool true) rfl (by kernel_rfl) (by kernel_rfl) (by kernel_rfl) (fun _ _ _ h => h) (Or.inl ⟨rfl, fun W _ => by go_simp⟩) hS1 ?_
  (try simp only [Act.put, List.getElem_toArray, List.getElem_cons_zero, List.getElem_cons_succ, List.setIfInBounds_toArray, List.set_cons_zero, List.set_cons_succ])
  refine wpAnyH_take (i := 16) (v := .bool true) rfl (by kernel_rfl) (by kernel_rfl) (by kernel_rfl) (fun _ _ _ h => h) (Or.inl ⟨rfl, fun W _ => by go_simp⟩) hS1 ?_
  (try simp only [Act.put, List.getElem_toArray, List.getElem_cons_zero, List.getElem_cons_succ, List.setIfInBounds_toArray, List.set_cons_zero, List.set_cons_succ])
  refine wpAnyH_take (i := 17) (v := .bool true) rfl (by kernel_rfl) (by kernel_rfl) (by kernel_rfl) (fun _ _ _ h => h) (Or.inl ⟨rfl, fun _ _ => exec_move _ rfl _ rfl⟩) hS1 ?_
  (try simp only [Act.put, List.getElem_toArray, List.getElem_cons_zero, List.getElem_cons_succ, List.setIfInBounds_toArray, List.set_cons_zero, List.set_cons_succ])
  refine wpAnyH_take (i := 18) (v := .nilIface) rfl (by kernel_rfl) (by kernel_rfl) (by kernel_rfl) (fun _ _ _ h => h) (Or.inl ⟨rfl, fun _ _ => exec_move _ rfl _ rfl⟩) hS1 ?_
  (try simp only [Act.put, List.getElem_toArray, List.getElem_cons_zero, List.getElem_cons_succ, List.setIfInBounds_toArray, List.set_cons_zero, List.set_cons_succ])
  refine wpAnyH_take (i := 19) (v := .bool true) rfl (by kernel_rfl) (by kernel_rfl) (by kernel_rfl) (fun _ _ _ h => h) (Or.inl ⟨rfl, fun W _ => by go_simp⟩) hS1 ?_
  (try simp only [Act.put, List.getElem_toArray, List.getElem_cons_zero, List.getElem_cons_succ, List.setIfInBounds_toArray, List.set_cons_zero, List.set_cons_succ])
  refine wpAnyH_take (i := 20) (v := .bool true) rfl (by kernel_rfl) (by kernel_rfl) (by kernel_rfl) (fun _ _ _ h => h) (Or.inl ⟨rfl, fun W _ => by go_simp⟩) hS1 ?_
  (try simp only [Act.put, List.getElem_toArray, List.getElem_cons_zero, List.getElem_cons_succ, List.setIfInBounds_toArray, List.set_cons_zero, List.set_cons_succ])
  refine wpAnyH_take (i := 21) (v := .bool true) rfl (by kernel_rfl) (by kernel_rfl) (by kernel_rfl) (fun _ _ _ h => h) (Or.inl ⟨rfl, fun _ _ => exec_move _ rfl _ rfl⟩) hS1 ?_
  (try simp only [Act.put, List.getElem_toArray, List.getElem_cons_zero, List.getElem_cons_succ, List.setIfInBounds_toArray, List.set_cons_zero, List.set_cons_succ])
  refine wpAnyH_take (i := 22) (v := .slice (some ⟨gx, 0, none⟩) 16 16) rfl (by kernel_rfl) (by kernel_rfl) (by kernel_rfl) (fun _ _ _ h => h) (Or.inl ⟨rfl, fun _ _ => exec_move _ rfl _ rfl⟩) hS1 ?_
  (try simp only [Act.put, List.getElem_toArray, List.getElem_cons_zero, List.getElem_cons_succ, List.setIfInBounds_toArray, List.set_cons_zero, List.set_cons_succ])
  refine wpAnyH_take (i := 23) (v := .slice (some ⟨gy, 0, none⟩) 16 16) rfl (by kernel_rfl) (by kernel_rfl) (by kernel_rfl) (fun _ _ _ h => h) (Or.inl ⟨rfl, fun _ _ => exec_move _ rfl _ rfl⟩) hS1 ?_
  (try simp only [Act.put, List.getElem_toArray, List.getElem_cons_zero, List.getElem_cons_succ, List.setIfInBounds_toArray, List.set_cons_zero, List.set_cons_succ])
  refine wpAnyH_ready (rs := [24]) (by kernel_rfl) (by simp) (AllReadyH.cons rfl (fun K hK => ?_) AllReadyH.nil)
  (try simp only [Act.put, List.getElem_toArray, List.getElem_cons_zero, List.getElem_cons_succ, List.setIfInBounds_toArray, List.set_cons_zero, List.set_cons_succ])
  refine Eq.mpr (if_pos (by rfl)) ?_
  go_simp
  refine (same_any _ _ 16 16 16 (jk 1 (xr (xr (xr zf a) b) c)) (jk 1 (xr (xr (xr zf c) a) b)) _ (by omega) ((Bx.out.below hS1 Bx.out.lt).reads) ((By.out.below hS1 By.out.lt).reads)).mono ?_
  rintro e wq2 ⟨rfl, hQ2⟩
  rw [sameA]
  refine hK.out _ _ (hS1.trans (hQ2.mono hS1.size)) (fun hS2 => ?_)
  (try simp only [Act.put, List.getElem_toArray, List.getElem_cons_zero, List.getElem_cons_succ, List.setIfInBounds_toArray, List.set_cons_zero, List.set_cons_succ])
  clear hK K
  refine wpAnyH_take (i := 25) (v := .bool true) rfl (by kernel_rfl) (by kernel_rfl) (by kernel_rfl) (fun _ _ _ h => h) (Or.inl ⟨rfl, fun W _ => by go_simp⟩) hS2 ?_
  (try simp only [Act.put, List.getElem_toArray, List.getElem_cons_zero, List.getElem_cons_succ, List.setIfInBounds_toArray, List.set_cons_zero, List.set_cons_succ])
  refine wpAnyH_take (i := 26) (v := .bool true) rfl (by kernel_rfl) (by kernel_rfl) (by kernel_rfl) (fun _ _ _ h => h) (Or.inl ⟨rfl, fun _ _ => exec_move _ rfl _ rfl⟩) hS2 ?_
  (try simp only [Act.put, List.getElem_toArray, List.getElem_cons_zero, List.getElem_cons_succ, List.setIfInBounds_toArray, List.set_cons_zero, List.set_cons_succ])
  refine wpAnyH_take (i := 27) (v := .slice (some ⟨gz, 0, none⟩) 16 16) rfl (by kernel_rfl) (by kernel_rfl) (by kernel_rfl) (fun _ _ _ h => h) (Or.inl ⟨rfl, fun _ _ => exec_move _ rfl _ rfl⟩) hS2 ?_
  (try simp only [Act.put, List.getElem_toArray, List.getElem_cons_zero, List.getElem_cons_succ, List.setIfInBounds_toArray, List.set_cons_zero, List.set_cons_succ])
  refine wpAnyH_take (i := 28) (v := .int .i64 16) rfl (by kernel_rfl) (by kernel_rfl) (by kernel_rfl) (fun _ _ _ h => h) (Or.inl ⟨rfl, fun _ _ => exec_move _ rfl _ rfl⟩) hS2 ?_
  (try simp only [Act.put, List.getElem_toArray, List.getElem_cons_zero, List.getElem_cons_succ, List.setIfInBounds_toArray, List.set_cons_zero, List.set_cons_succ])
  refine wpAnyH_take (i := 29) (v := .slice (some ⟨w.heap.size, 0, none⟩) 16 24) rfl (by kernel_rfl) (by kernel_rfl) (by kernel_rfl) (fun _ _ _ h => h) (Or.inl ⟨rfl, fun W _ => exec_cutU 63 _ _ rfl (.pointer (some ⟨w.heap.size, 0, none⟩)) (.int .i64 16) _ rfl rfl (cut16 ⟨w.heap.size, 0, none⟩ W)⟩) hS2 ?_
  (try simp only [Act.put, List.getElem_toArray, List.getElem_cons_zero, List.getElem_cons_succ, List.setIfInBounds_toArray, List.set_cons_zero, List.set_cons_succ])
  refine wpAnyH_ready (rs := [30]) (by kernel_rfl) (by simp) (AllReadyH.cons rfl (fun K hK => ?_) AllReadyH.nil)
  (try simp only [Act.put, List.getElem_toArray, List.getElem_cons_zero, List.getElem_cons_succ, List.setIfInBounds_toArray, List.set_cons_zero, List.set_cons_succ])
  refine Eq.mpr (if_pos (by rfl)) ?_
  go_simp
  refine (same_any _ _ 16 16 24 (jk 1 (xr (xr (xr zf a) b) b)) a _ (by omega) ((Bz.out.below hS2 Bz.out.lt).reads) ((Blk.reads (Ka.out.below (Xv.out.trans (hS2.mono Xv.out.size)) Ka.out.lt)).less (by omega))).mono ?_
  rintro e wq3 ⟨rfl, hQ3⟩
  rw [sameB]
  refine hK.out _ _ (hS2.trans (hQ3.mono hS2.size)) (fun hS3 => ?_)
  (try simp only [Act.put, List.getElem_toArray, List.getElem_cons_zero, List.getElem_cons_succ, List.setIfInBounds_toArray, List.set_cons_zero, List.set_cons_succ])
  clear hK K
  refine wpAnyH_take (i := 31) (v := .bool true) rfl (by kernel_rfl) (by kernel_rfl) (by kernel_rfl) (fun _ _ _ h => h) (Or.inl ⟨rfl, fun W _ => by go_simp⟩) hS3 ?_
  (try simp only [Act.put, List.getElem_toArray, List.getElem_cons_zero, List.getElem_cons_succ, List.setIfInBounds_toArray, List.set_cons_zero, List.set_cons_succ])
  refine wpAnyH_take (i := 32) (v := .bool true) rfl (by kernel_rfl) (by kernel_rfl) (by kernel_rfl) (fun _ _ _ h => h) (Or.inl ⟨rfl, fun _ _ => exec_move _ rfl _ rfl⟩) hS3 ?_
  (try simp only [Act.put, List.getElem_toArray, List.getElem_cons_zero, List.getElem_cons_succ, List.setIfInBounds_toArray, List.set_cons_zero, List.set_cons_succ])
  refine wpAnyH_take (i := 33) (v := .slice (some ⟨gu, 0, none⟩) 16 16) rfl (by kernel_rfl) (by kernel_rfl) (by kernel_rfl) (fun _ _ _ h => h) (Or.inl ⟨rfl, fun _ _ => exec_move _ rfl _ rfl⟩) hS3 ?_
  (try simp only [Act.put, List.getElem_toArray, List.getElem_cons_zero, List.getElem_cons_succ, List.setIfInBounds_toArray, List.set_cons_zero, List.set_cons_succ])
  refine wpAnyH_ready (rs := [34]) (by kernel_rfl) (by simp) (AllReadyH.cons rfl (fun K hK => ?_) AllReadyH.nil)
  (try simp only [Act.put, List.getElem_toArray, List.getElem_cons_zero, List.getElem_cons_succ, List.setIfInBounds_toArray, List.set_cons_zero, List.set_cons_succ])
  refine Eq.mpr (if_pos (by rfl)) ?_
  go_simp
  refine (right_odd _ 16 16 (jk 2 (xr (xr zf a) b)) (⟨.inr rfl, .inl rfl⟩) _ (ltU Ha.out Hb.out) ((Bu.out.below hS3 Bu.out.lt).reads) (oddU Ha.out Hb.out)).mono ?_
  rintro e wq4 ⟨rfl, hQ4e⟩
  have hQ4 : Below wq3.heap.size wq3 wq4 := by rw [hQ4e]; exact Below.refl _ _
  clear hQ4e
  refine hK.out _ _ (hS3.trans (hQ4.mono hS3.size)) (fun hS4 => ?_)
  (try simp only [Act.put, List.getElem_toArray, List.getElem_cons_zero, List.getElem_cons_succ, List.setIfInBounds_toArray, List.set_cons_zero, List.set_cons_succ])
  clear hK K
  refine wpAnyH_take (i := 35) (v := .bool true) rfl (by kernel_rfl) (by kernel_rfl) (by kernel_rfl) (fun _ _ _ h => h) (Or.inl ⟨rfl, fun W _ => by go_simp⟩) hS4 ?_
  (try simp only [Act.put, List.getElem_toArray, List.getElem_cons_zero, List.getElem_cons_succ, List.setIfInBounds_toArray, List.set_cons_zero, List.set_cons_succ])
  refine wpAnyH_take (i := 36) (v := .bool true) rfl (by kernel_rfl) (by kernel_rfl) (by kernel_rfl) (fun _ _ _ h => h) (Or.inl ⟨rfl, fun W _ => by go_simp⟩) hS4 ?_
  (try simp only [Act.put, List.getElem_toArray, List.getElem_cons_zero, List.getElem_cons_succ, List.setIfInBounds_toArray, List.set_cons_zero, List.set_cons_succ])
  refine wpAnyH_take (i := 37) (v := .bool true) rfl (by kernel_rfl) (by kernel_rfl) (by kernel_rfl) (fun _ _ _ h => h) (Or.inl ⟨rfl, fun _ _ => exec_move _ rfl _ rfl⟩) hS4 ?_
  (try simp only [Act.put, List.getElem_toArray, List.getElem_cons_zero, List.getElem_cons_succ, List.setIfInBounds_toArray, List.set_cons_zero, List.set_cons_succ])
  refine wpAnyH_take (i := 38) (v := .slice (some ⟨gu, 0, none⟩) 16 16) rfl (by kernel_rfl) (by kernel_rfl) (by kernel_rfl) (fun _ _ _ h => h) (Or.inl ⟨rfl, fun _ _ => exec_move _ rfl _ rfl⟩) hS4 ?_
  (try simp only [Act.put, List.getElem_toArray, List.getElem_cons_zero, List.getElem_cons_succ, List.setIfInBounds_toArray, List.set_cons_zero, List.set_cons_succ])
  refine wpAnyH_take (i := 39) (v := .slice (some ⟨gv, 0, none⟩) 16 16) rfl (by kernel_rfl) (by kernel_rfl) (by kernel_rfl) (fun _ _ _ h => h) (Or.inl ⟨rfl, fun _ _ => exec_move _ rfl _ rfl⟩) hS4 ?_
  (try simp only [Act.put, List.getElem_toArray, List.getElem_cons_zero, List.getElem_cons_succ, List.setIfInBounds_toArray, List.set_cons_zero, List.set_cons_succ])
  refine wpAnyH_take (i := 41) (v := .int .i64 16) rfl (by kernel_rfl) (by kernel_rfl) (by kernel_rfl) (fun _ _ _ h => h) (Or.inl ⟨rfl, fun _ _ => exec_move _ rfl _ rfl⟩) hS4 ?_
  (try simp only [Act.put, List.getElem_toArray, List.getElem_cons_zero, List.getElem_cons_succ, List.setIfInBounds_toArray, List.set_cons_zero, List.set_cons_succ])
  refine wpAnyH_take (i := 42) (v := .slice (some ⟨w.heap.size + 1, 0, none⟩) 16 24) rfl (by kernel_rfl) (by kernel_rfl) (by kernel_rfl) (fun _ _ _ h => h) (Or.inl ⟨rfl, fun W _ => exec_cutU 63 _ _ rfl (.pointer (some ⟨w.heap.size + 1, 0, none⟩)) (.int .i64 16) _ rfl rfl (cut16 ⟨w.heap.size + 1, 0, none⟩ W)⟩) hS4 ?_
  (try simp only [Act.put, List.getElem_toArray, List.getElem_cons_zero, List.getElem_cons_succ, List.setIfInBounds_toArray, List.set_cons_zero, List.set_cons_succ])
  refine wpAnyH_take (i := 43) (v := .int .i64 16) rfl (by kernel_rfl) (by kernel_rfl) (by kernel_rfl) (fun _ _ _ h => h) (Or.inl ⟨rfl, fun _ _ => exec_move _ rfl _ rfl⟩) hS4 ?_
  (try simp only [Act.put, List.getElem_toArray, List.getElem_cons_zero, List.getElem_cons_succ, List.setIfInBounds_toArray, List.set_cons_zero, List.set_cons_succ])
  refine wpAnyH_take (i := 44) (v := .slice (some ⟨w.heap.size + 1 + 1, 0, none⟩) 16 24) rfl (by kernel_rfl) (by kernel_rfl) (by kernel_rfl) (fun _ _ _ h => h) (Or.inl ⟨rfl, fun W _ => exec_cutU 63 _ _ rfl (.pointer (some ⟨w.heap.size + 1 + 1, 0, none⟩)) (.int .i64 16) _ rfl rfl (cut16 ⟨w.heap.size + 1 + 1, 0, none⟩ W)⟩) hS4 ?_
  (try simp only [Act.put, List.getElem_toArray, List.getElem_cons_zero, List.getElem_cons_succ, List.setIfInBounds_toArray, List.set_cons_zero, List.set_cons_succ])
  refine wpAnyH_ready (rs := [40]) (by kernel_rfl) (by simp) (AllReadyH.cons rfl (fun K hK => ?_) AllReadyH.nil)
  (try simp only [Act.put, List.getElem_toArray, List.getElem_cons_zero, List.getElem_cons_succ, List.setIfInBounds_toArray, List.set_cons_zero, List.set_cons_succ])
  refine Eq.mpr (if_pos (by rfl)) ?_
  go_simp
  refine (same_any _ _ 16 16 16 (jk 2 (xr (xr zf a) b)) (jk 2 (xr (xr zf a) c)) _ (by omega) ((Bu.out.below hS4 Bu.out.lt).reads) ((Bv.out.below hS4 Bv.out.lt).reads)).mono ?_
  rintro e wq5 ⟨rfl, hQ5⟩
  refine hK.out _ _ (hS4.trans (hQ5.mono hS4.size)) (fun hS5 => ?_)
  (try simp only [Act.put, List.getElem_toArray, List.getElem_cons_zero, List.getElem_cons_succ, List.setIfInBounds_toArray, List.set_cons_zero, List.set_cons_succ])
  clear hK K
  refine wpAnyH_ready (rs := [45]) (by kernel_rfl) (by simp) (AllReadyH.cons rfl (fun K hK => ?_) AllReadyH.nil)
  (try simp only [Act.put, List.getElem_toArray, List.getElem_cons_zero, List.getElem_cons_succ, List.setIfInBounds_toArray, List.set_cons_zero, List.set_cons_succ])
  refine Eq.mpr (if_pos (by rfl)) ?_
  go_simp
  refine (alike_any _ _ 16 24 24 b c _ (by omega) Hb.out Hc.out ((Blk.reads (Kb.out.below (Xv.out.trans (hS5.mono Xv.out.size)) Kb.out.lt)).less (by omega)) ((Blk.reads (Kc.out.below (Xv.out.trans (hS5.mono Xv.out.size)) Kc.out.lt)).less (by omega))).mono ?_
  rintro e wq6 ⟨rfl, hQ6⟩
  refine hK.out _ _ (hS5.trans (hQ6.mono hS5.size)) (fun hS6 => ?_)
  (try simp only [Act.put, List.getElem_toArray, List.getElem_cons_zero, List.getElem_cons_succ, List.setIfInBounds_toArray, List.set_cons_zero, List.set_cons_succ])
  clear hK K
  refine wpAnyH_take (i := 46) (v := .bool true) rfl (by kernel_rfl) (by kernel_rfl) (by kernel_rfl) (fun _ _ _ h => h) (Or.inl ⟨rfl, fun _ _ => exec_eqbool _ _ rfl _ _ rfl rfl (sameC Ha.out Hb.out Hc.out)⟩) hS6 ?_
  (try simp only [Act.put, List.getElem_toArray, List.getElem_cons_zero, List.getElem_cons_succ, List.setIfInBounds_toArray, List.set_cons_zero, List.set_cons_succ])
  refine wpAnyH_take (i := 47) (v := .bool true) rfl (by kernel_rfl) (by kernel_rfl) (by kernel_rfl) (fun _ _ _ h => h) (Or.inl ⟨rfl, fun W _ => by go_simp⟩) hS6 ?_
  (try simp only [Act.put, List.getElem_toArray, List.getElem_cons_zero, List.getElem_cons_succ, List.setIfInBounds_toArray, List.set_cons_zero, List.set_cons_succ])
  refine wpAnyH_take (i := 48) (v := .bool true) rfl (by kernel_rfl) (by kernel_rfl) (by kernel_rfl) (fun _ _ _ h => h) (Or.inl ⟨rfl, fun _ _ => exec_assign _ rfl _ rfl⟩) hS6 ?_
  (try simp only [Act.put, List.getElem_toArray, List.getElem_cons_zero, List.getElem_cons_succ, List.setIfInBounds_toArray, List.set_cons_zero, List.set_cons_succ])
  refine wpAnyH_done (by kernel_rfl) ?_ _
  have XE := hid (Xv.out.trans (hS6.mono Xv.out.size))
  clear hS0 hS1 hS2 hS3 hS4 hS5
  go_wp2_with fail
  go_ret
  exact ⟨rfl, HB3.out.trans (XE.out.mono HB3.out.size)⟩
set_option linter.unusedSimpArgs false in
set_option maxRecDepth 100000 in
set_option maxHeartbeats 2000000 in
theorem j24 (a b c : Nat → Nat) (w : World) (hg : Laid w) (ha : ∀ i, i < 24 → a i < 256) (hb : ∀ i, i < 24 → b i < 256) (hc : ∀ i, i < 24 → c i < 256) :
    Calls Tryz.prog 8 #[.agg (row 24 (b8 a)), .agg (row 24 (b8 b)), .agg (row 24 (b8 c)), .bool true] w fun e w' => e = .returned (.bool true) ∧ Below w.heap.size w w' := by
  have HB3 : Hid (Below w.heap.size w (((w.alloc (.cells (row 24 (b8 a)) 63)).alloc (.cells (row 24 (b8 b)) 63)).alloc (.cells (row 24 (b8 c)) 63))) := hid ((((Below.refl _ w).alloc (Nat.le_refl _) _).alloc (by simp) _).alloc (by simp; omega) _)
  have hba : Blk (((w.alloc (.cells (row 24 (b8 a)) 63)).alloc (.cells (row 24 (b8 b)) 63)).alloc (.cells (row 24 (b8 c)) 63)) w.heap.size 63 (row 24 (b8 a)) := ((Blk.fresh _ _ _).alloc _).alloc _
  have hbb : Blk (((w.alloc (.cells (row 24 (b8 a)) 63)).alloc (.cells (row 24 (b8 b)) 63)).alloc (.cells (row 24 (b8 c)) 63)) (w.heap.size + 1) 63 (row 24 (b8 b)) := by
    have := Blk.fresh (w.alloc (.cells (row 24 (b8 a)) 63)) 63 (row 24 (b8 b))
    have h2 : Blk ((w.alloc (.cells (row 24 (b8 a)) 63)).alloc (.cells (row 24 (b8 b)) 63)) (w.heap.size + 1) 63 (row 24 (b8 b)) := by simpa using this
    exact h2.alloc _
  have hbc : Blk (((w.alloc (.cells (row 24 (b8 a)) 63)).alloc (.cells (row 24 (b8 b)) 63)).alloc (.cells (row 24 (b8 c)) 63)) (w.heap.size + 1 + 1) 63 (row 24 (b8 c)) := by
    have := Blk.fresh ((w.alloc (.cells (row 24 (b8 a)) 63)).alloc (.cells (row 24 (b8 b)) 63)) 63 (row 24 (b8 c))
    simpa using this
  have Ka := hid hba
  have Kb := hid hbb
  have Kc := hid hbc
  have Ha : Hid (∀ i, i < 24 → a i < 256) := hid (fun i hi => ha i (by omega))
  have Hb : Hid (∀ i, i < 24 → b i < 256) := hid (fun i hi => hb i (by omega))
  have Hc : Hid (∀ i, i < 24 → c i < 256) := hid (fun i hi => hc i (by omega))
  have HG := hid hg
  clear hba hbb hbc ha hb hc hg
  go_enter Tryz.func8, Tryz.ntmps8
  go_wp2_with fail
  generalize ((w.alloc (.cells (row 24 (b8 a)) 63)).alloc (.cells (row 24 (b8 b)) 63)).alloc (.cells (row 24 (b8 c)) 63) = w3 at *
  have HX := hid (Below.refl w3.heap.size w3)
  have Rax : Hid (Reads w3.drew w3.drew.heap.size (some ⟨w.heap.size, 0, none⟩) 24 a) := hid ((Blk.reads (Ka.out.below HX.out.drew Ka.out.lt)).less (by omega))
  have Rbx : Hid (Reads w3.drew w3.drew.heap.size (some ⟨w.heap.size + 1, 0, none⟩) 24 b) := hid ((Blk.reads (Kb.out.below HX.out.drew Kb.out.lt)).less (by omega))
  have Rcx : Hid (Reads w3.drew w3.drew.heap.size (some ⟨w.heap.size + 1 + 1, 0, none⟩) 24 c) := hid ((Blk.reads (Kc.out.below HX.out.drew Kc.out.lt)).less (by omega))
  refine wp_region_held_drew (S := fun W => Below w3.heap.size w3 W) (by kernel_rfl) (Below.refl _ _).drew (fun hS0 => ?_)
  refine wpAnyH_take (i := 0) (v := .int .i64 24) rfl (by kernel_rfl) (by kernel_rfl) (by kernel_rfl) (fun _ _ _ h => h) (Or.inl ⟨rfl, fun _ _ => exec_move _ rfl _ rfl⟩) hS0 ?_
  (try simp only [Act.put, List.getElem_toArray, List.getElem_cons_zero, List.getElem_cons_succ, List.setIfInBounds_toArray, List.set_cons_zero, List.set_cons_succ])
  refine wpAnyH_take (i := 1) (v := .slice (some ⟨w.heap.size, 0, none⟩) 24 24) rfl (by kernel_rfl) (by kernel_rfl) (by kernel_rfl) (fun _ _ _ h => h) (Or.inl ⟨rfl, fun W _ => exec_cutU 63 _ _ rfl (.pointer (some ⟨w.heap.size, 0, none⟩)) (.int .i64 24) _ rfl rfl (cut24 ⟨w.heap.size, 0, none⟩ W)⟩) hS0 ?_
  (try simp only [Act.put, List.getElem_toArray, List.getElem_cons_zero, List.getElem_cons_succ, List.setIfInBounds_toArray, List.set_cons_zero, List.set_cons_succ])
  refine wpAnyH_take (i := 2) (v := .int .i64 24) rfl (by kernel_rfl) (by kernel_rfl) (by kernel_rfl) (fun _ _ _ h => h) (Or.inl ⟨rfl, fun _ _ => exec_move _ rfl _ rfl⟩) hS0 ?_
  (try simp only [Act.put, List.getElem_toArray, List.getElem_cons_zero, List.getElem_cons_succ, List.setIfInBounds_toArray, List.set_cons_zero, List.set_cons_succ])
  refine wpAnyH_take (i := 3) (v := .slice (some ⟨w.heap.size + 1, 0, none⟩) 24 24) rfl (by kernel_rfl) (by kernel_rfl) (by kernel_rfl) (fun _ _ _ h => h) (Or.inl ⟨rfl, fun W _ => exec_cutU 63 _ _ rfl (.pointer (some ⟨w.heap.size + 1, 0, none⟩)) (.int .i64 24) _ rfl rfl (cut24 ⟨w.heap.size + 1, 0, none⟩ W)⟩) hS0 ?_
  (try simp only [Act.put, List.getElem_toArray, List.getElem_cons_zero, List.getElem_cons_succ, List.setIfInBounds_toArray, List.set_cons_zero, List.set_cons_succ])
  refine wpAnyH_take (i := 4) (v := .int .i64 24) rfl (by kernel_rfl) (by kernel_rfl) (by kernel_rfl) (fun _ _ _ h => h) (Or.inl ⟨rfl, fun _ _ => exec_move _ rfl _ rfl⟩) hS0 ?_
  (try simp only [Act.put, List.getElem_toArray, List.getElem_cons_zero, List.getElem_cons_succ, List.setIfInBounds_toArray, List.set_cons_zero, List.set_cons_succ])
  refine wpAnyH_take (i := 5) (v := .slice (some ⟨w.heap.size + 1 + 1, 0, none⟩) 24 24) rfl (by kernel_rfl) (by kernel_rfl) (by kernel_rfl) (fun _ _ _ h => h) (Or.inl ⟨rfl, fun W _ => exec_cutU 63 _ _ rfl (.pointer (some ⟨w.heap.size + 1 + 1, 0, none⟩)) (.int .i64 24) _ rfl rfl (cut24 ⟨w.heap.size + 1 + 1, 0, none⟩ W)⟩) hS0 ?_
  (try simp only [Act.put, List.getElem_toArray, List.getElem_cons_zero, List.getElem_cons_succ, List.setIfInBounds_toArray, List.set_cons_zero, List.set_cons_succ])
  refine wpAnyH_ready (rs := [6]) (by kernel_rfl) (by simp) (AllReadyH.cons rfl (fun K hK => ?_) AllReadyH.nil)
  (try simp only [Act.put, List.getElem_toArray, List.getElem_cons_zero, List.getElem_cons_succ, List.setIfInBounds_toArray, List.set_cons_zero, List.set_cons_succ])
  refine Eq.mpr (if_pos (by rfl)) ?_
  refine wp_bs3S 59 _ _ _  rfl _ _ _  rfl rfl rfl  _ _ (bs3S _ _ _ _ _ _ _ _ _ _ ) ?_
  refine hK.out _ _ (hS0.alloc hS0.size _) (fun hS1 => ?_)
  (try simp only [Act.put, List.getElem_toArray, List.getElem_cons_zero, List.getElem_cons_succ, List.setIfInBounds_toArray, List.set_cons_zero, List.set_cons_succ])
  clear hK K
  refine wpAnyH_ready (rs := [7]) (by kernel_rfl) (by simp) (AllReadyH.cons rfl (fun K hK => ?_) AllReadyH.nil)
  (try simp only [Act.put, List.getElem_toArray, List.getElem_cons_zero, List.getElem_cons_succ, List.setIfInBounds_toArray, List.set_cons_zero, List.set_cons_succ])
  refine Eq.mpr (if_pos (by rfl)) ?_
  go_simp
  refine (join3 1 24 (some ⟨w.heap.size, 0, none⟩) (some ⟨w.heap.size + 1, 0, none⟩) (some ⟨w.heap.size + 1 + 1, 0, none⟩) 24 24 24  a b c _ (⟨.inl rfl, .inr (.inl rfl)⟩) Rax.out Rbx.out Rcx.out Ha.out Hb.out Hc.out).mono ?_
  rintro e wq2 ⟨gx, rfl, hbx, hgx, hBx⟩
  refine hK.out _ _ (hS0.trans (hBx.mono hS0.size)) (fun hS2 => ?_)
  (try simp only [Act.put, List.getElem_toArray, List.getElem_cons_zero, List.getElem_cons_succ, List.setIfInBounds_toArray, List.set_cons_zero, List.set_cons_succ])
  clear hK K
  refine wpAnyH_take (i := 8) (v := .tuple #[.slice (some ⟨gx, 0, none⟩) 24 24, .nilIface]) rfl (by kernel_rfl) (by kernel_rfl) (by kernel_rfl) (fun _ _ _ h => h) (Or.inl ⟨rfl, fun _ _ => exec_move _ rfl _ rfl⟩) hS2 ?_
  (try simp only [Act.put, List.getElem_toArray, List.getElem_cons_zero, List.getElem_cons_succ, List.setIfInBounds_toArray, List.set_cons_zero, List.set_cons_succ])
  refine wpAnyH_take (i := 9) (v := .slice (some ⟨gx, 0, none⟩) 24 24) rfl (by kernel_rfl) (by kernel_rfl) (by kernel_rfl) (fun _ _ _ h => h) (Or.inl ⟨rfl, fun _ _ => exec_extract _ 0 rfl #[.slice (some ⟨gx, 0, none⟩) 24 24, .nilIface] rfl _ rfl⟩) hS2 ?_
  (try simp only [Act.put, List.getElem_toArray, List.getElem_cons_zero, List.getElem_cons_succ, List.setIfInBounds_toArray, List.set_cons_zero, List.set_cons_succ])
  refine wpAnyH_take (i := 10) (v := .nilIface) rfl (by kernel_rfl) (by kernel_rfl) (by kernel_rfl) (fun _ _ _ h => h) (Or.inl ⟨rfl, fun _ _ => exec_extract _ 1 rfl #[.slice (some ⟨gx, 0, none⟩) 24 24, .nilIface] rfl _ rfl⟩) hS2 ?_
  (try simp only [Act.put, List.getElem_toArray, List.getElem_cons_zero, List.getElem_cons_succ, List.setIfInBounds_toArray, List.set_cons_zero, List.set_cons_succ])
  refine wpAnyH_take (i := 11) (v := .slice (some ⟨gx, 0, none⟩) 24 24) rfl (by kernel_rfl) (by kernel_rfl) (by kernel_rfl) (fun _ _ _ h => h) (Or.inl ⟨rfl, fun _ _ => exec_assign _ rfl _ rfl⟩) hS2 ?_
  (try simp only [Act.put, List.getElem_toArray, List.getElem_cons_zero, List.getElem_cons_succ, List.setIfInBounds_toArray, List.set_cons_zero, List.set_cons_succ])
  refine wpAnyH_take (i := 12) (v := .nilIface) rfl (by kernel_rfl) (by kernel_rfl) (by kernel_rfl) (fun _ _ _ h => h) (Or.inl ⟨rfl, fun _ _ => exec_assign _ rfl _ rfl⟩) hS2 ?_
  (try simp only [Act.put, List.getElem_toArray, List.getElem_cons_zero, List.getElem_cons_succ, List.setIfInBounds_toArray, List.set_cons_zero, List.set_cons_succ])
  refine wpAnyH_done (by kernel_rfl) ?_ _
  have Xx := hid (HX.out.trans (hS2.mono HX.out.size))
  have Bx := hid hbx
  clear hS0 hS1 hS2 hbx hBx hgx HX Rax Rbx Rcx
  rename World => wx
  go_wp2_with fail
  have Ray : Hid (Reads wx.drew wx.drew.heap.size (some ⟨w.heap.size, 0, none⟩) 24 a) := hid ((Blk.reads (Ka.out.below Xx.out.drew Ka.out.lt)).less (by omega))
  have Rby : Hid (Reads wx.drew wx.drew.heap.size (some ⟨w.heap.size + 1, 0, none⟩) 24 b) := hid ((Blk.reads (Kb.out.below Xx.out.drew Kb.out.lt)).less (by omega))
  have Rcy : Hid (Reads wx.drew wx.drew.heap.size (some ⟨w.heap.size + 1 + 1, 0, none⟩) 24 c) := hid ((Blk.reads (Kc.out.below Xx.out.drew Kc.out.lt)).less (by omega))
  refine wp_region_held_drew (S := fun W => Below wx.heap.size wx W) (by kernel_rfl) (Below.refl _ _).drew (fun hS0 => ?_)
  refine wpAnyH_take (i := 0) (v := .int .i64 24) rfl (by kernel_rfl) (by kernel_rfl) (by kernel_rfl) (fun _ _ _ h => h) (Or.inl ⟨rfl, fun _ _ => exec_move _ rfl _ rfl⟩) hS0 ?_
  (try simp only [Act.put, List.getElem_toArray, List.getElem_cons_zero, List.getElem_cons_succ, List.setIfInBounds_toArray, List.set_cons_zero, List.set_cons_succ])
  refine wpAnyH_take (i := 1) (v := .slice (some ⟨w.heap.size + 1 + 1, 0, none⟩) 24 24) rfl (by kernel_rfl) (by kernel_rfl) (by kernel_rfl) (fun _ _ _ h => h) (Or.inl ⟨rfl, fun W _ => exec_cutU 63 _ _ rfl (.pointer (some ⟨w.heap.size + 1 + 1, 0, none⟩)) (.int .i64 24) _ rfl rfl (cut24 ⟨w.heap.size + 1 + 1, 0, none⟩ W)⟩) hS0 ?_
  (try simp only [Act.put, List.getElem_toArray, List.getElem_cons_zero, List.getElem_cons_succ, List.setIfInBounds_toArray, List.set_cons_zero, List.set_cons_succ])
  refine wpAnyH_take (i := 2) (v := .int .i64 24) rfl (by kernel_rfl) (by kernel_rfl) (by kernel_rfl) (fun _ _ _ h => h) (Or.inl ⟨rfl, fun _ _ => exec_move _ rfl _ rfl⟩) hS0 ?_
  (try simp only [Act.put, List.getElem_toArray, List.getElem_cons_zero, List.getElem_cons_succ, List.setIfInBounds_toArray, List.set_cons_zero, List.set_cons_succ])
  refine wpAnyH_take (i := 3) (v := .slice (some ⟨w.heap.size, 0, none⟩) 24 24) rfl (by kernel_rfl) (by kernel_rfl) (by kernel_rfl) (fun _ _ _ h => h) (Or.inl ⟨rfl, fun W _ => exec_cutU 63 _ _ rfl (.pointer (some ⟨w.heap.size, 0, none⟩)) (.int .i64 24) _ rfl rfl (cut24 ⟨w.heap.size, 0, none⟩ W)⟩) hS0 ?_
  (try simp only [Act.put, List.getElem_toArray, List.getElem_cons_zero, List.getElem_cons_succ, List.setIfInBounds_toArray, List.set_cons_zero, List.set_cons_succ])
  refine wpAnyH_take (i := 4) (v := .int .i64 24) rfl (by kernel_rfl) (by kernel_rfl) (by kernel_rfl) (fun _ _ _ h => h) (Or.inl ⟨rfl, fun _ _ => exec_move _ rfl _ rfl⟩) hS0 ?_
  (try simp only [Act.put, List.getElem_toArray, List.getElem_cons_zero, List.getElem_cons_succ, List.setIfInBounds_toArray, List.set_cons_zero, List.set_cons_succ])
  refine wpAnyH_take (i := 5) (v := .slice (some ⟨w.heap.size + 1, 0, none⟩) 24 24) rfl (by kernel_rfl) (by kernel_rfl) (by kernel_rfl) (fun _ _ _ h => h) (Or.inl ⟨rfl, fun W _ => exec_cutU 63 _ _ rfl (.pointer (some ⟨w.heap.size + 1, 0, none⟩)) (.int .i64 24) _ rfl rfl (cut24 ⟨w.heap.size + 1, 0, none⟩ W)⟩) hS0 ?_
  (try simp only [Act.put, List.getElem_toArray, List.getElem_cons_zero, List.getElem_cons_succ, List.setIfInBounds_toArray, List.set_cons_zero, List.set_cons_succ])
  refine wpAnyH_ready (rs := [6]) (by kernel_rfl) (by simp) (AllReadyH.cons rfl (fun K hK => ?_) AllReadyH.nil)
  (try simp only [Act.put, List.getElem_toArray, List.getElem_cons_zero, List.getElem_cons_succ, List.setIfInBounds_toArray, List.set_cons_zero, List.set_cons_succ])
  refine Eq.mpr (if_pos (by rfl)) ?_
  refine wp_bs3S 59 _ _ _  rfl _ _ _  rfl rfl rfl  _ _ (bs3S _ _ _ _ _ _ _ _ _ _ ) ?_
  refine hK.out _ _ (hS0.alloc hS0.size _) (fun hS1 => ?_)
  (try simp only [Act.put, List.getElem_toArray, List.getElem_cons_zero, List.getElem_cons_succ, List.setIfInBounds_toArray, List.set_cons_zero, List.set_cons_succ])
  clear hK K
  refine wpAnyH_ready (rs := [7]) (by kernel_rfl) (by simp) (AllReadyH.cons rfl (fun K hK => ?_) AllReadyH.nil)
  (try simp only [Act.put, List.getElem_toArray, List.getElem_cons_zero, List.getElem_cons_succ, List.setIfInBounds_toArray, List.set_cons_zero, List.set_cons_succ])
  refine Eq.mpr (if_pos (by rfl)) ?_
  go_simp
  refine (join3 1 24 (some ⟨w.heap.size + 1 + 1, 0, none⟩) (some ⟨w.heap.size, 0, none⟩) (some ⟨w.heap.size + 1, 0, none⟩) 24 24 24  c a b _ (⟨.inl rfl, .inr (.inl rfl)⟩) Rcy.out Ray.out Rby.out Hc.out Ha.out Hb.out).mono ?_
  rintro e wq2 ⟨gy, rfl, hby, hgy, hBy⟩
  refine hK.out _ _ (hS0.trans (hBy.mono hS0.size)) (fun hS2 => ?_)
  (try simp only [Act.put, List.getElem_toArray, List.getElem_cons_zero, List.getElem_cons_succ, List.setIfInBounds_toArray, List.set_cons_zero, List.set_cons_succ])
  clear hK K
  refine wpAnyH_take (i := 8) (v := .tuple #[.slice (some ⟨gy, 0, none⟩) 24 24, .nilIface]) rfl (by kernel_rfl) (by kernel_rfl) (by kernel_rfl) (fun _ _ _ h => h) (Or.inl ⟨rfl, fun _ _ => exec_move _ rfl _ rfl⟩) hS2 ?_
  (try simp only [Act.put, List.getElem_toArray, List.getElem_cons_zero, List.getElem_cons_succ, List.setIfInBounds_toArray, List.set_cons_zero, List.set_cons_succ])
  refine wpAnyH_take (i := 9) (v := .slice (some ⟨gy, 0, none⟩) 24 24) rfl (by kernel_rfl) (by kernel_rfl) (by kernel_rfl) (fun _ _ _ h => h) (Or.inl ⟨rfl, fun _ _ => exec_extract _ 0 rfl #[.slice (some ⟨gy, 0, none⟩) 24 24, .nilIface] rfl _ rfl⟩) hS2 ?_
  (try simp only [Act.put, List.getElem_toArray, List.getElem_cons_zero, List.getElem_cons_succ, List.setIfInBounds_toArray, List.set_cons_zero, List.set_cons_succ])
  refine wpAnyH_take (i := 10) (v := .nilIface) rfl (by kernel_rfl) (by kernel_rfl) (by kernel_rfl) (fun _ _ _ h => h) (Or.inl ⟨rfl, fun _ _ => exec_extract _ 1 rfl #[.slice (some ⟨gy, 0, none⟩) 24 24, .nilIface] rfl _ rfl⟩) hS2 ?_
  (try simp only [Act.put, List.getElem_toArray, List.getElem_cons_zero, List.getElem_cons_succ, List.setIfInBounds_toArray, List.set_cons_zero, List.set_cons_succ])
  refine wpAnyH_take (i := 11) (v := .slice (some ⟨gy, 0, none⟩) 24 24) rfl (by kernel_rfl) (by kernel_rfl) (by kernel_rfl) (fun _ _ _ h => h) (Or.inl ⟨rfl, fun _ _ => exec_assign _ rfl _ rfl⟩) hS2 ?_
  (try simp only [Act.put, List.getElem_toArray, List.getElem_cons_zero, List.getElem_cons_succ, List.setIfInBounds_toArray, List.set_cons_zero, List.set_cons_succ])
  refine wpAnyH_take (i := 12) (v := .nilIface) rfl (by kernel_rfl) (by kernel_rfl) (by kernel_rfl) (fun _ _ _ h => h) (Or.inl ⟨rfl, fun _ _ => exec_assign _ rfl _ rfl⟩) hS2 ?_
  (try simp only [Act.put, List.getElem_toArray, List.getElem_cons_zero, List.getElem_cons_succ, List.setIfInBounds_toArray, List.set_cons_zero, List.set_cons_succ])
  refine wpAnyH_done (by kernel_rfl) ?_ _
  have Xy := hid (Xx.out.trans (hS2.mono Xx.out.size))
  have By := hid hby
  have Bx := hid (Bx.out.below hS2 Bx.out.lt)
  clear hS0 hS1 hS2 hby hBy hgy Xx Ray Rby Rcy
  rename World => wy
  go_wp2_with fail
  have Raz : Hid (Reads wy.drew wy.drew.heap.size (some ⟨w.heap.size, 0, none⟩) 24 a) := hid ((Blk.reads (Ka.out.below Xy.out.drew Ka.out.lt)).less (by omega))
  have Rbz : Hid (Reads wy.drew wy.drew.heap.size (some ⟨w.heap.size + 1, 0, none⟩) 24 b) := hid ((Blk.reads (Kb.out.below Xy.out.drew Kb.out.lt)).less (by omega))
  refine wp_region_held_drew (S := fun W => Below wy.heap.size wy W) (by kernel_rfl) (Below.refl _ _).drew (fun hS0 => ?_)
  refine wpAnyH_take (i := 0) (v := .int .i64 24) rfl (by kernel_rfl) (by kernel_rfl) (by kernel_rfl) (fun _ _ _ h => h) (Or.inl ⟨rfl, fun _ _ => exec_move _ rfl _ rfl⟩) hS0 ?_
  (try simp only [Act.put, List.getElem_toArray, List.getElem_cons_zero, List.getElem_cons_succ, List.setIfInBounds_toArray, List.set_cons_zero, List.set_cons_succ])
  refine wpAnyH_take (i := 1) (v := .slice (some ⟨w.heap.size, 0, none⟩) 24 24) rfl (by kernel_rfl) (by kernel_rfl) (by kernel_rfl) (fun _ _ _ h => h) (Or.inl ⟨rfl, fun W _ => exec_cutU 63 _ _ rfl (.pointer (some ⟨w.heap.size, 0, none⟩)) (.int .i64 24) _ rfl rfl (cut24 ⟨w.heap.size, 0, none⟩ W)⟩) hS0 ?_
  (try simp only [Act.put, List.getElem_toArray, List.getElem_cons_zero, List.getElem_cons_succ, List.setIfInBounds_toArray, List.set_cons_zero, List.set_cons_succ])
  refine wpAnyH_take (i := 2) (v := .int .i64 24) rfl (by kernel_rfl) (by kernel_rfl) (by kernel_rfl) (fun _ _ _ h => h) (Or.inl ⟨rfl, fun _ _ => exec_move _ rfl _ rfl⟩) hS0 ?_
  (try simp only [Act.put, List.getElem_toArray, List.getElem_cons_zero, List.getElem_cons_succ, List.setIfInBounds_toArray, List.set_cons_zero, List.set_cons_succ])
  refine wpAnyH_take (i := 3) (v := .slice (some ⟨w.heap.size + 1, 0, none⟩) 24 24) rfl (by kernel_rfl) (by kernel_rfl) (by kernel_rfl) (fun _ _ _ h => h) (Or.inl ⟨rfl, fun W _ => exec_cutU 63 _ _ rfl (.pointer (some ⟨w.heap.size + 1, 0, none⟩)) (.int .i64 24) _ rfl rfl (cut24 ⟨w.heap.size + 1, 0, none⟩ W)⟩) hS0 ?_
  (try simp only [Act.put, List.getElem_toArray, List.getElem_cons_zero, List.getElem_cons_succ, List.setIfInBounds_toArray, List.set_cons_zero, List.set_cons_succ])
  refine wpAnyH_take (i := 4) (v := .int .i64 24) rfl (by kernel_rfl) (by kernel_rfl) (by kernel_rfl) (fun _ _ _ h => h) (Or.inl ⟨rfl, fun _ _ => exec_move _ rfl _ rfl⟩) hS0 ?_
  (try simp only [Act.put, List.getElem_toArray, List.getElem_cons_zero, List.getElem_cons_succ, List.setIfInBounds_toArray, List.set_cons_zero, List.set_cons_succ])
  refine wpAnyH_take (i := 5) (v := .slice (some ⟨w.heap.size + 1, 0, none⟩) 24 24) rfl (by kernel_rfl) (by kernel_rfl) (by kernel_rfl) (fun _ _ _ h => h) (Or.inl ⟨rfl, fun W _ => exec_cutU 63 _ _ rfl (.pointer (some ⟨w.heap.size + 1, 0, none⟩)) (.int .i64 24) _ rfl rfl (cut24 ⟨w.heap.size + 1, 0, none⟩ W)⟩) hS0 ?_
  (try simp only [Act.put, List.getElem_toArray, List.getElem_cons_zero, List.getElem_cons_succ, List.setIfInBounds_toArray, List.set_cons_zero, List.set_cons_succ])
  refine wpAnyH_ready (rs := [6]) (by kernel_rfl) (by simp) (AllReadyH.cons rfl (fun K hK => ?_) AllReadyH.nil)
  (try simp only [Act.put, List.getElem_toArray, List.getElem_cons_zero, List.getElem_cons_succ, List.setIfInBounds_toArray, List.set_cons_zero, List.set_cons_succ])
  refine Eq.mpr (if_pos (by rfl)) ?_
  refine wp_bs3S 59 _ _ _  rfl _ _ _  rfl rfl rfl  _ _ (bs3S _ _ _ _ _ _ _ _ _ _ ) ?_
  refine hK.out _ _ (hS0.alloc hS0.size _) (fun hS1 => ?_)
  (try simp only [Act.put, List.getElem_toArray, List.getElem_cons_zero, List.getElem_cons_succ, List.setIfInBounds_toArray, List.set_cons_zero, List.set_cons_succ])
  clear hK K
  refine wpAnyH_ready (rs := [7]) (by kernel_rfl) (by simp) (AllReadyH.cons rfl (fun K hK => ?_) AllReadyH.nil)
  (try simp only [Act.put, List.getElem_toArray, List.getElem_cons_zero, List.getElem_cons_succ, List.setIfInBounds_toArray, List.set_cons_zero, List.set_cons_succ])
  refine Eq.mpr (if_pos (by rfl)) ?_
  go_simp
  refine (join3 1 24 (some ⟨w.heap.size, 0, none⟩) (some ⟨w.heap.size + 1, 0, none⟩) (some ⟨w.heap.size + 1, 0, none⟩) 24 24 24  a b b _ (⟨.inl rfl, .inr (.inl rfl)⟩) Raz.out Rbz.out Rbz.out Ha.out Hb.out Hb.out).mono ?_
  rintro e wq2 ⟨gz, rfl, hbz, hgz, hBz⟩
  refine hK.out _ _ (hS0.trans (hBz.mono hS0.size)) (fun hS2 => ?_)
  (try simp only [Act.put, List.getElem_toArray, List.getElem_cons_zero, List.getElem_cons_succ, List.setIfInBounds_toArray, List.set_cons_zero, List.set_cons_succ])
  clear hK K
  refine wpAnyH_take (i := 8) (v := .tuple #[.slice (some ⟨gz, 0, none⟩) 24 24, .nilIface]) rfl (by kernel_rfl) (by kernel_rfl) (by kernel_rfl) (fun _ _ _ h => h) (Or.inl ⟨rfl, fun _ _ => exec_move _ rfl _ rfl⟩) hS2 ?_
  (try simp only [Act.put, List.getElem_toArray, List.getElem_cons_zero, List.getElem_cons_succ, List.setIfInBounds_toArray, List.set_cons_zero, List.set_cons_succ])
  refine wpAnyH_take (i := 9) (v := .slice (some ⟨gz, 0, none⟩) 24 24) rfl (by kernel_rfl) (by kernel_rfl) (by kernel_rfl) (fun _ _ _ h => h) (Or.inl ⟨rfl, fun _ _ => exec_extract _ 0 rfl #[.slice (some ⟨gz, 0, none⟩) 24 24, .nilIface] rfl _ rfl⟩) hS2 ?_
  (try simp only [Act.put, List.getElem_toArray, List.getElem_cons_zero, List.getElem_cons_succ, List.setIfInBounds_toArray, List.set_cons_zero, List.set_cons_succ])
  refine wpAnyH_take (i := 10) (v := .nilIface) rfl (by kernel_rfl) (by kernel_rfl) (by kernel_rfl) (fun _ _ _ h => h) (Or.inl ⟨rfl, fun _ _ => exec_extract _ 1 rfl #[.slice (some ⟨gz, 0, none⟩) 24 24, .nilIface] rfl _ rfl⟩) hS2 ?_
  (try simp only [Act.put, List.getElem_toArray, List.getElem_cons_zero, List.getElem_cons_succ, List.setIfInBounds_toArray, List.set_cons_zero, List.set_cons_succ])
  refine wpAnyH_take (i := 11) (v := .slice (some ⟨gz, 0, none⟩) 24 24) rfl (by kernel_rfl) (by kernel_rfl) (by kernel_rfl) (fun _ _ _ h => h) (Or.inl ⟨rfl, fun _ _ => exec_assign _ rfl _ rfl⟩) hS2 ?_
  (try simp only [Act.put, List.getElem_toArray, List.getElem_cons_zero, List.getElem_cons_succ, List.setIfInBounds_toArray, List.set_cons_zero, List.set_cons_succ])
  refine wpAnyH_take (i := 12) (v := .nilIface) rfl (by kernel_rfl) (by kernel_rfl) (by kernel_rfl) (fun _ _ _ h => h) (Or.inl ⟨rfl, fun _ _ => exec_assign _ rfl _ rfl⟩) hS2 ?_
  (try simp only [Act.put, List.getElem_toArray, List.getElem_cons_zero, List.getElem_cons_succ, List.setIfInBounds_toArray, List.set_cons_zero, List.set_cons_succ])
  refine wpAnyH_done (by kernel_rfl) ?_ _
  have Xz := hid (Xy.out.trans (hS2.mono Xy.out.size))
  have Bz := hid hbz
  have Bx := hid (Bx.out.below hS2 Bx.out.lt)
  have By := hid (By.out.below hS2 By.out.lt)
  clear hS0 hS1 hS2 hbz hBz hgz Xy Raz Rbz
  rename World => wz
  go_wp2_with fail
  have Rau : Hid (Reads wz.drew wz.drew.heap.size (some ⟨w.heap.size, 0, none⟩) 24 a) := hid ((Blk.reads (Ka.out.below Xz.out.drew Ka.out.lt)).less (by omega))
  have Rbu : Hid (Reads wz.drew wz.drew.heap.size (some ⟨w.heap.size + 1, 0, none⟩) 24 b) := hid ((Blk.reads (Kb.out.below Xz.out.drew Kb.out.lt)).less (by omega))
  refine wp_region_held_drew (S := fun W => Below wz.heap.size wz W) (by kernel_rfl) (Below.refl _ _).drew (fun hS0 => ?_)
  refine wpAnyH_take (i := 0) (v := .int .i64 24) rfl (by kernel_rfl) (by kernel_rfl) (by kernel_rfl) (fun _ _ _ h => h) (Or.inl ⟨rfl, fun _ _ => exec_move _ rfl _ rfl⟩) hS0 ?_
  (try simp only [Act.put, List.getElem_toArray, List.getElem_cons_zero, List.getElem_cons_succ, List.setIfInBounds_toArray, List.set_cons_zero, List.set_cons_succ])
  refine wpAnyH_take (i := 1) (v := .slice (some ⟨w.heap.size, 0, none⟩) 24 24) rfl (by kernel_rfl) (by kernel_rfl) (by kernel_rfl) (fun _ _ _ h => h) (Or.inl ⟨rfl, fun W _ => exec_cutU 63 _ _ rfl (.pointer (some ⟨w.heap.size, 0, none⟩)) (.int .i64 24) _ rfl rfl (cut24 ⟨w.heap.size, 0, none⟩ W)⟩) hS0 ?_
  (try simp only [Act.put, List.getElem_toArray, List.getElem_cons_zero, List.getElem_cons_succ, List.setIfInBounds_toArray, List.set_cons_zero, List.set_cons_succ])
  refine wpAnyH_take (i := 2) (v := .int .i64 24) rfl (by kernel_rfl) (by kernel_rfl) (by kernel_rfl) (fun _ _ _ h => h) (Or.inl ⟨rfl, fun _ _ => exec_move _ rfl _ rfl⟩) hS0 ?_
  (try simp only [Act.put, List.getElem_toArray, List.getElem_cons_zero, List.getElem_cons_succ, List.setIfInBounds_toArray, List.set_cons_zero, List.set_cons_succ])
  refine wpAnyH_take (i := 3) (v := .slice (some ⟨w.heap.size + 1, 0, none⟩) 24 24) rfl (by kernel_rfl) (by kernel_rfl) (by kernel_rfl) (fun _ _ _ h => h) (Or.inl ⟨rfl, fun W _ => exec_cutU 63 _ _ rfl (.pointer (some ⟨w.heap.size + 1, 0, none⟩)) (.int .i64 24) _ rfl rfl (cut24 ⟨w.heap.size + 1, 0, none⟩ W)⟩) hS0 ?_
  (try simp only [Act.put, List.getElem_toArray, List.getElem_cons_zero, List.getElem_cons_succ, List.setIfInBounds_toArray, List.set_cons_zero, List.set_cons_succ])
  refine wpAnyH_ready (rs := [4]) (by kernel_rfl) (by simp) (AllReadyH.cons rfl (fun K hK => ?_) AllReadyH.nil)
  (try simp only [Act.put, List.getElem_toArray, List.getElem_cons_zero, List.getElem_cons_succ, List.setIfInBounds_toArray, List.set_cons_zero, List.set_cons_succ])
  refine Eq.mpr (if_pos (by rfl)) ?_
  refine wp_bs2S 59 _ _  rfl _ _  rfl rfl  _ _ (bs2S _ _ _ _ _ _ _ ) ?_
  refine hK.out _ _ (hS0.alloc hS0.size _) (fun hS1 => ?_)
  (try simp only [Act.put, List.getElem_toArray, List.getElem_cons_zero, List.getElem_cons_succ, List.setIfInBounds_toArray, List.set_cons_zero, List.set_cons_succ])
  clear hK K
  refine wpAnyH_ready (rs := [5]) (by kernel_rfl) (by simp) (AllReadyH.cons rfl (fun K hK => ?_) AllReadyH.nil)
  (try simp only [Act.put, List.getElem_toArray, List.getElem_cons_zero, List.getElem_cons_succ, List.setIfInBounds_toArray, List.set_cons_zero, List.set_cons_succ])
  refine Eq.mpr (if_pos (by rfl)) ?_
  go_simp
  refine (join2 2 24 (some ⟨w.heap.size, 0, none⟩) (some ⟨w.heap.size + 1, 0, none⟩) 24 24  a b _ (⟨.inr rfl, .inr (.inl rfl)⟩) Rau.out Rbu.out Ha.out Hb.out).mono ?_
  rintro e wq2 ⟨gu, rfl, hbu, hgu, hBu⟩
  refine hK.out _ _ (hS0.trans (hBu.mono hS0.size)) (fun hS2 => ?_)
  (try simp only [Act.put, List.getElem_toArray, List.getElem_cons_zero, List.getElem_cons_succ, List.setIfInBounds_toArray, List.set_cons_zero, List.set_cons_succ])
  clear hK K
  refine wpAnyH_take (i := 6) (v := .tuple #[.slice (some ⟨gu, 0, none⟩) 24 24, .nilIface]) rfl (by kernel_rfl) (by kernel_rfl) (by kernel_rfl) (fun _ _ _ h => h) (Or.inl ⟨rfl, fun _ _ => exec_move _ rfl _ rfl⟩) hS2 ?_
  (try simp only [Act.put, List.getElem_toArray, List.getElem_cons_zero, List.getElem_cons_succ, List.setIfInBounds_toArray, List.set_cons_zero, List.set_cons_succ])
  refine wpAnyH_take (i := 7) (v := .slice (some ⟨gu, 0, none⟩) 24 24) rfl (by kernel_rfl) (by kernel_rfl) (by kernel_rfl) (fun _ _ _ h => h) (Or.inl ⟨rfl, fun _ _ => exec_extract _ 0 rfl #[.slice (some ⟨gu, 0, none⟩) 24 24, .nilIface] rfl _ rfl⟩) hS2 ?_
  (try simp only [Act.put, List.getElem_toArray, List.getElem_cons_zero, List.getElem_cons_succ, List.setIfInBounds_toArray, List.set_cons_zero, List.set_cons_succ])
  refine wpAnyH_take (i := 8) (v := .nilIface) rfl (by kernel_rfl) (by kernel_rfl) (by kernel_rfl) (fun _ _ _ h => h) (Or.inl ⟨rfl, fun _ _ => exec_extract _ 1 rfl #[.slice (some ⟨gu, 0, none⟩) 24 24, .nilIface] rfl _ rfl⟩) hS2 ?_
  (try simp only [Act.put, List.getElem_toArray, List.getElem_cons_zero, List.getElem_cons_succ, List.setIfInBounds_toArray, List.set_cons_zero, List.set_cons_succ])
  refine wpAnyH_take (i := 9) (v := .slice (some ⟨gu, 0, none⟩) 24 24) rfl (by kernel_rfl) (by kernel_rfl) (by kernel_rfl) (fun _ _ _ h => h) (Or.inl ⟨rfl, fun _ _ => exec_assign _ rfl _ rfl⟩) hS2 ?_
  (try simp only [Act.put, List.getElem_toArray, List.getElem_cons_zero, List.getElem_cons_succ, List.setIfInBounds_toArray, List.set_cons_zero, List.set_cons_succ])
  refine wpAnyH_take (i := 10) (v := .nilIface) rfl (by kernel_rfl) (by kernel_rfl) (by kernel_rfl) (fun _ _ _ h => h) (Or.inl ⟨rfl, fun _ _ => exec_assign _ rfl _ rfl⟩) hS2 ?_
  (try simp only [Act.put, List.getElem_toArray, List.getElem_cons_zero, List.getElem_cons_succ, List.setIfInBounds_toArray, List.set_cons_zero, List.set_cons_succ])
  refine wpAnyH_done (by kernel_rfl) ?_ _
  have Xu := hid (Xz.out.trans (hS2.mono Xz.out.size))
  have Bu := hid hbu
  have Bx := hid (Bx.out.below hS2 Bx.out.lt)
  have By := hid (By.out.below hS2 By.out.lt)
  have Bz := hid (Bz.out.below hS2 Bz.out.lt)
  clear hS0 hS1 hS2 hbu hBu hgu Xz Rau Rbu
  rename World => wu
  go_wp2_with fail
  have Rav : Hid (Reads wu.drew wu.drew.heap.size (some ⟨w.heap.size, 0, none⟩) 24 a) := hid ((Blk.reads (Ka.out.below Xu.out.drew Ka.out.lt)).less (by omega))
  have Rcv : Hid (Reads wu.drew wu.drew.heap.size (some ⟨w.heap.size + 1 + 1, 0, none⟩) 24 c) := hid ((Blk.reads (Kc.out.below Xu.out.drew Kc.out.lt)).less (by omega))
  refine wp_region_held_drew (S := fun W => Below wu.heap.size wu W) (by kernel_rfl) (Below.refl _ _).drew (fun hS0 => ?_)
  refine wpAnyH_take (i := 0) (v := .int .i64 24) rfl (by kernel_rfl) (by kernel_rfl) (by kernel_rfl) (fun _ _ _ h => h) (Or.inl ⟨rfl, fun _ _ => exec_move _ rfl _ rfl⟩) hS0 ?_
  (try simp only [Act.put, List.getElem_toArray, List.getElem_cons_zero, List.getElem_cons_succ, List.setIfInBounds_toArray, List.set_cons_zero, List.set_cons_succ])
  refine wpAnyH_take (i := 1) (v := .slice (some ⟨w.heap.size, 0, none⟩) 24 24) rfl (by kernel_rfl) (by kernel_rfl) (by kernel_rfl) (fun _ _ _ h => h) (Or.inl ⟨rfl, fun W _ => exec_cutU 63 _ _ rfl (.pointer (some ⟨w.heap.size, 0, none⟩)) (.int .i64 24) _ rfl rfl (cut24 ⟨w.heap.size, 0, none⟩ W)⟩) hS0 ?_
  (try simp only [Act.put, List.getElem_toArray, List.getElem_cons_zero, List.getElem_cons_succ, List.setIfInBounds_toArray, List.set_cons_zero, List.set_cons_succ])
  refine wpAnyH_take (i := 2) (v := .int .i64 24) rfl (by kernel_rfl) (by kernel_rfl) (by kernel_rfl) (fun _ _ _ h => h) (Or.inl ⟨rfl, fun _ _ => exec_move _ rfl _ rfl⟩) hS0 ?_
  (try simp only [Act.put, List.getElem_toArray, List.getElem_cons_zero, List.getElem_cons_succ, List.setIfInBounds_toArray, List.set_cons_zero, List.set_cons_succ])
  refine wpAnyH_take (i := 3) (v := .slice (some ⟨w.heap.size + 1 + 1, 0, none⟩) 24 24) rfl (by kernel_rfl) (by kernel_rfl) (by kernel_rfl) (fun _ _ _ h => h) (Or.inl ⟨rfl, fun W _ => exec_cutU 63 _ _ rfl (.pointer (some ⟨w.heap.size + 1 + 1, 0, none⟩)) (.int .i64 24) _ rfl rfl (cut24 ⟨w.heap.size + 1 + 1, 0, none⟩ W)⟩) hS0 ?_
  (try simp only [Act.put, List.getElem_toArray, List.getElem_cons_zero, List.getElem_cons_succ, List.setIfInBounds_toArray, List.set_cons_zero, List.set_cons_succ])
  refine wpAnyH_ready (rs := [4]) (by kernel_rfl) (by simp) (AllReadyH.cons rfl (fun K hK => ?_) AllReadyH.nil)
  (try simp only [Act.put, List.getElem_toArray, List.getElem_cons_zero, List.getElem_cons_succ, List.setIfInBounds_toArray, List.set_cons_zero, List.set_cons_succ])
  refine Eq.mpr (if_pos (by rfl)) ?_
  refine wp_bs2S 59 _ _  rfl _ _  rfl rfl  _ _ (bs2S _ _ _ _ _ _ _ ) ?_
  refine hK.out _ _ (hS0.alloc hS0.size _) (fun hS1 => ?_)
  (try simp only [Act.put, List.getElem_toArray, List.getElem_cons_zero, List.getElem_cons_succ, List.setIfInBounds_toArray, List.set_cons_zero, List.set_cons_succ])
  clear hK K
  refine wpAnyH_ready (rs := [5]) (by kernel_rfl) (by simp) (AllReadyH.cons rfl (fun K hK => ?_) AllReadyH.nil)
  (try simp only [Act.put, List.getElem_toArray, List.getElem_cons_zero, List.getElem_cons_succ, List.setIfInBounds_toArray, List.set_cons_zero, List.set_cons_succ])
  refine Eq.mpr (if_pos (by rfl)) ?_
  go_simp
  refine (join2 2 24 (some ⟨w.heap.size, 0, none⟩) (some ⟨w.heap.size + 1 + 1, 0, none⟩) 24 24  a c _ (⟨.inr rfl, .inr (.inl rfl)⟩) Rav.out Rcv.out Ha.out Hc.out).mono ?_
  rintro e wq2 ⟨gv, rfl, hbv, hgv, hBv⟩
  refine hK.out _ _ (hS0.trans (hBv.mono hS0.size)) (fun hS2 => ?_)
  (try simp only [Act.put, List.getElem_toArray, List.getElem_cons_zero, List.getElem_cons_succ, List.setIfInBounds_toArray, List.set_cons_zero, List.set_cons_succ])
  clear hK K
  refine wpAnyH_take (i := 6) (v := .tuple #[.slice (some ⟨gv, 0, none⟩) 24 24, .nilIface]) rfl (by kernel_rfl) (by kernel_rfl) (by kernel_rfl) (fun _ _ _ h => h) (Or.inl ⟨rfl, fun _ _ => exec_move _ rfl _ rfl⟩) hS2 ?_
  (try simp only [Act.put, List.getElem_toArray, List.getElem_cons_zero, List.getElem_cons_succ, List.setIfInBounds_toArray, List.set_cons_zero, List.set_cons_succ])
  refine wpAnyH_take (i := 7) (v := .slice (some ⟨gv, 0, none⟩) 24 24) rfl (by kernel_rfl) (by kernel_rfl) (by kernel_rfl) (fun _ _ _ h => h) (Or.inl ⟨rfl, fun _ _ => exec_extract _ 0 rfl #[.slice (some ⟨gv, 0, none⟩) 24 24, .nilIface] rfl _ rfl⟩) hS2 ?_
  (try simp only [Act.put, List.getElem_toArray, List.getElem_cons_zero, List.getElem_cons_succ, List.setIfInBounds_toArray, List.set_cons_zero, List.set_cons_succ])
  refine wpAnyH_take (i := 8) (v := .nilIface) rfl (by kernel_rfl) (by kernel_rfl) (by kernel_rfl) (fun _ _ _ h => h) (Or.inl ⟨rfl, fun _ _ => exec_extract _ 1 rfl #[.slice (some ⟨gv, 0, none⟩) 24 24, .nilIface] rfl _ rfl⟩) hS2 ?_
  (try simp only [Act.put, List.getElem_toArray, List.getElem_cons_zero, List.getElem_cons_succ, List.setIfInBounds_toArray, List.set_cons_zero, List.set_cons_succ])
  refine wpAnyH_take (i := 9) (v := .slice (some ⟨gv, 0, none⟩) 24 24) rfl (by kernel_rfl) (by kernel_rfl) (by kernel_rfl) (fun _ _ _ h => h) (Or.inl ⟨rfl, fun _ _ => exec_assign _ rfl _ rfl⟩) hS2 ?_
  (try simp only [Act.put, List.getElem_toArray, List.getElem_cons_zero, List.getElem_cons_succ, List.setIfInBounds_toArray, List.set_cons_zero, List.set_cons_succ])
  refine wpAnyH_take (i := 10) (v := .nilIface) rfl (by kernel_rfl) (by kernel_rfl) (by kernel_rfl) (fun _ _ _ h => h) (Or.inl ⟨rfl, fun _ _ => exec_assign _ rfl _ rfl⟩) hS2 ?_
  (try simp only [Act.put, List.getElem_toArray, List.getElem_cons_zero, List.getElem_cons_succ, List.setIfInBounds_toArray, List.set_cons_zero, List.set_cons_succ])
  refine wpAnyH_done (by kernel_rfl) ?_ _
  have Xv := hid (Xu.out.trans (hS2.mono Xu.out.size))
  have Bv := hid hbv
  have Bx := hid (Bx.out.below hS2 Bx.out.lt)
  have By := hid (By.out.below hS2 By.out.lt)
  have Bz := hid (Bz.out.below hS2 Bz.out.lt)
  have Bu := hid (Bu.out.below hS2 Bu.out.lt)
  clear hS0 hS1 hS2 hbv hBv hgv Xu Rav Rcv
  rename World => wv
  go_wp2_with fail
  refine wp_region_held_drew (S := fun W => Below wv.heap.size wv W) (by kernel_rfl) (Below.refl _ _).drew (fun hS0 => ?_)
  refine wpAnyH_ready (rs := [0]) (by kernel_rfl) (by simp) (AllReadyH.cons rfl (fun K hK => ?_) AllReadyH.nil)
  (try simp only [Act.put, List.getElem_toArray, List.getElem_cons_zero, List.getElem_cons_succ, List.setIfInBounds_toArray, List.set_cons_zero, List.set_cons_succ])
  refine Eq.mpr (if_pos (by rfl)) ?_
  go_simp
  refine (awake9_any _ (HG.out.below (HB3.out.trans ((Xv.out.trans (hS0.mono Xv.out.size)).mono HB3.out.size)))).mono ?_
  rintro e wq1 ⟨rfl, hQ1⟩
  refine hK.out _ _ (hS0.trans (hQ1.mono hS0.size)) (fun hS1 => ?_)
  (try simp only [Act.put, List.getElem_toArray, List.getElem_cons_zero, List.getElem_cons_succ, List.setIfInBounds_toArray, List.set_cons_zero, List.set_cons_succ])
  clear hK K
  refine wpAnyH_take (i := 1) (v := .bool true) rfl (by kernel_rfl) (by kernel_rfl) (by kernel_rfl) (fun _ _ _ h => h) (Or.inl ⟨rfl, fun _ _ => exec_move _ rfl _ rfl⟩) hS1 ?_
  (try simp only [Act.put, List.getElem_toArray, List.getElem_cons_zero, List.getElem_cons_succ, List.setIfInBounds_toArray, List.set_cons_zero, List.set_cons_succ])
  refine wpAnyH_take (i := 2) (v := .nilIface) rfl (by kernel_rfl) (by kernel_rfl) (by kernel_rfl) (fun _ _ _ h => h) (Or.inl ⟨rfl, fun _ _ => exec_move _ rfl _ rfl⟩) hS1 ?_
  (try simp only [Act.put, List.getElem_toArray, List.getElem_cons_zero, List.getElem_cons_succ, List.setIfInBounds_toArray, List.set_cons_zero, List.set_cons_succ])
  refine wpAnyH_take (i := 3) (v := .bool true) rfl (by kernel_rfl) (by kernel_rfl) (by kernel_rfl) (fun _ _ _ h => h) (Or.inl ⟨rfl, fun W _ => by go_simp⟩) hS1 ?_
  (try simp only [Act.put, List.getElem_toArray, List.getElem_cons_zero, List.getElem_cons_succ, List.setIfInBounds_toArray, List.set_cons_zero, List.set_cons_succ])
  refine wpAnyH_take (i := 4) (v := .bool true) rfl (by kernel_rfl) (by kernel_rfl) (by kernel_rfl) (fun _ _ _ h => h) (Or.inl ⟨rfl, fun W _ => by go_simp⟩) hS1 ?_
  (try simp only [Act.put, List.getElem_toArray, List.getElem_cons_zero, List.getElem_cons_succ, List.setIfInBounds_toArray, List.set_cons_zero, List.set_cons_succ])
  refine wpAnyH_take (i := 5) (v := .bool true) rfl (by kernel_rfl) (by kernel_rfl) (by kernel_rfl) (fun _ _ _ h => h) (Or.inl ⟨rfl, fun _ _ => exec_move _ rfl _ rfl⟩) hS1 ?_
  (try simp only [Act.put, List.getElem_toArray, List.getElem_cons_zero, List.getElem_cons_succ, List.setIfInBounds_toArray, List.set_cons_zero, List.set_cons_succ])
  refine wpAnyH_take (i := 6) (v := .nilIface) rfl (by kernel_rfl) (by kernel_rfl) (by kernel_rfl) (fun _ _ _ h => h) (Or.inl ⟨rfl, fun _ _ => exec_move _ rfl _ rfl⟩) hS1 ?_
  (try simp only [Act.put, List.getElem_toArray, List.getElem_cons_zero, List.getElem_cons_succ, List.setIfInBounds_toArray, List.set_cons_zero, List.set_cons_succ])
  refine wpAnyH_take (i := 7) (v := .bool true) rfl (by kernel_rfl) (by kernel_rfl) (by kernel_rfl) (fun _ _ _ h => h) (Or.inl ⟨rfl, fun W _ => by go_simp⟩) hS1 ?_
  (try simp only [Act.put, List.getElem_toArray, List.getElem_cons_zero, List.getElem_cons_succ, List.setIfInBounds_toArray, List.set_cons_zero, List.set_cons_succ])
  refine wpAnyH_take (i := 8) (v := .bool true) rfl (by kernel_rfl) (by kernel_rfl) (by kernel_rfl) (fun _ _ _ h => h) (Or.inl ⟨rfl, fun W _ => by go_simp⟩) hS1 ?_
  (try simp only [Act.put, List.getElem_toArray, List.getElem_cons_zero, List.getElem_cons_succ, List.setIfInBounds_toArray, List.set_cons_zero, List.set_cons_succ])
  refine wpAnyH_take (i := 9) (v := .bool true) rfl (by kernel_rfl) (by kernel_rfl) (by kernel_rfl) (fun _ _ _ h => h) (Or.inl ⟨rfl, fun _ _ => exec_move _ rfl _ rfl⟩) hS1 ?_
  (try simp only [Act.put, List.getElem_toArray, List.getElem_cons_zero, List.getElem_cons_succ, List.setIfInBounds_toArray, List.set_cons_zero, List.set_cons_succ])
  refine wpAnyH_take (i := 10) (v := .nilIface) rfl (by kernel_rfl) (by kernel_rfl) (by kernel_rfl) (fun _ _ _ h => h) (Or.inl ⟨rfl, fun _ _ => exec_move _ rfl _ rfl⟩) hS1 ?_
  (try simp only [Act.put, List.getElem_toArray, List.getElem_cons_zero, List.getElem_cons_succ, List.setIfInBounds_toArray, List.set_cons_zero, List.set_cons_succ])
  refine wpAnyH_take (i := 11) (v := .bool true) rfl (by kernel_rfl) (by kernel_rfl) (by kernel_rfl) (fun _ _ _ h => h) (Or.inl ⟨rfl, fun W _ => by go_simp⟩) hS1 ?_
  (try simp only [Act.put, List.getElem_toArray, List.getElem_cons_zero, List.getElem_cons_succ, List.setIfInBounds_toArray, List.set_cons_zero, List.set_cons_succ])
  refine wpAnyH_take (i := 12) (v := .bool true) rfl (by kernel_rfl) (by kernel_rfl) (by kernel_rfl) (fun _ _ _ h => h) (Or.inl ⟨rfl, fun W _ => by go_simp⟩) hS1 ?_
  (try simp only [Act.put, List.getElem_toArray, List.getElem_cons_zero, List.getElem_cons_succ, List.setIfInBounds_toArray, List.set_cons_zero, List.set_cons_succ])
  refine wpAnyH_take (i := 13) (v := .bool true) rfl (by kernel_rfl) (by kernel_rfl) (by kernel_rfl) (fun _ _ _ h => h) (Or.inl ⟨rfl, fun _ _ => exec_move _ rfl _ rfl⟩) hS1 ?_
  (try simp only [Act.put, List.getElem_toArray, List.getElem_cons_zero, List.getElem_cons_succ, List.setIfInBounds_toArray, List.set_cons_zero, List.set_cons_succ])
  refine wpAnyH_take (i := 14) (v := .nilIface) rfl (by kernel_rfl) (by kernel_rfl) (by kernel_rfl) (fun _ _ _ h => h) (Or.inl ⟨rfl, fun _ _ => exec_move _ rfl _ rfl⟩) hS1 ?_
  (try simp only [Act.put, List.getElem_toArray, List.getElem_cons_zero, List.getElem_cons_succ, List.setIfInBounds_toArray, List.set_cons_zero, List.set_cons_succ])
  refine wpAnyH_take (i := 15) (v := .bool true) rfl (by kernel_rfl) (by kernel_rfl) (by kernel_rfl) (fun _ _ _ h => h) (Or.inl ⟨rfl, fun W _ => by go_simp⟩) hS1 ?_
  (try simp only [Act.put, List.getElem_toArray, List.getElem_cons_zero, List.getElem_cons_succ, List.setIfInBounds_toArray, List.set_cons_zero, List.set_cons_succ])
  refine wpAnyH_take (i := 16) (v := .bool true) rfl (by kernel_rfl) (by kernel_rfl) (by kernel_rfl) (fun _ _ _ h => h) (Or.inl ⟨rfl, fun W _ => by go_simp⟩) hS1 ?_
  (try simp only [Act.put, List.getElem_toArray, List.getElem_cons_zero, List.getElem_cons_succ, List.setIfInBounds_toArray, List.set_cons_zero, List.set_cons_succ])
  refine wpAnyH_take (i := 17) (v := .bool true) rfl (by kernel_rfl) (by kernel_rfl) (by kernel_rfl) (fun _ _ _ h => h) (Or.inl ⟨rfl, fun _ _ => exec_move _ rfl _ rfl⟩) hS1 ?_
  (try simp only [Act.put, List.getElem_toArray, List.getElem_cons_zero, List.getElem_cons_succ, List.setIfInBounds_toArray, List.set_cons_zero, List.set_cons_succ])
  refine wpAnyH_take (i := 18) (v := .nilIface) rfl (by kernel_rfl) (by kernel_rfl) (by kernel_rfl) (fun _ _ _ h => h) (Or.inl ⟨rfl, fun _ _ => exec_move _ rfl _ rfl⟩) hS1 ?_
  (try simp only [Act.put, List.getElem_toArray, List.getElem_cons_zero, List.getElem_cons_succ, List.setIfInBounds_toArray, List.set_cons_zero, List.set_cons_succ])
  refine wpAnyH_take (i := 19) (v := .bool true) rfl (by kernel_rfl) (by kernel_rfl) (by kernel_rfl) (fun _ _ _ h => h) (Or.inl ⟨rfl, fun W _ => by go_simp⟩) hS1 ?_
  (try simp only [Act.put, List.getElem_toArray, List.getElem_cons_zero, List.getElem_cons_succ, List.setIfInBounds_toArray, List.set_cons_zero, List.set_cons_succ])
  refine wpAnyH_take (i := 20) (v := .bool true) rfl (by kernel_rfl) (by kernel_rfl) (by kernel_rfl) (fun _ _ _ h => h) (Or.inl ⟨rfl, fun W _ => by go_simp⟩) hS1 ?_
  (try simp only [Act.put, List.getElem_toArray, List.getElem_cons_zero, List.getElem_cons_succ, List.setIfInBounds_toArray, List.set_cons_zero, List.set_cons_succ])
  refine wpAnyH_take (i := 21) (v := .bool true) rfl (by kernel_rfl) (by kernel_rfl) (by kernel_rfl) (fun _ _ _ h => h) (Or.inl ⟨rfl, fun _ _ => exec_move _ rfl _ rfl⟩) hS1 ?_
  (try simp only [Act.put, List.getElem_toArray, List.getElem_cons_zero, List.getElem_cons_succ, List.setIfInBounds_toArray, List.set_cons_zero, List.set_cons_succ])
  refine wpAnyH_take (i := 22) (v := .slice (some ⟨gx, 0, none⟩) 24 24) rfl (by kernel_rfl) (by kernel_rfl) (by kernel_rfl) (fun _ _ _ h => h) (Or.inl ⟨rfl, fun _ _ => exec_move _ rfl _ rfl⟩) hS1 ?_
  (try simp only [Act.put, List.getElem_toArray, List.getElem_cons_zero, List.getElem_cons_succ, List.setIfInBounds_toArray, List.set_cons_zero, List.set_cons_succ])
  refine wpAnyH_take (i := 23) (v := .slice (some ⟨gy, 0, none⟩) 24 24) rfl (by kernel_rfl) (by kernel_rfl) (by kernel_rfl) (fun _ _ _ h => h) (Or.inl ⟨rfl, fun _ _ => exec_move _ rfl _ rfl⟩) hS1 ?_
  (try simp only [Act.put, List.getElem_toArray, List.getElem_cons_zero, List.getElem_cons_succ, List.setIfInBounds_toArray, List.set_cons_zero, List.set_cons_succ])
  refine wpAnyH_ready (rs := [24]) (by kernel_rfl) (by simp) (AllReadyH.cons rfl (fun K hK => ?_) AllReadyH.nil)
  (try simp only [Act.put, List.getElem_toArray, List.getElem_cons_zero, List.getElem_cons_succ, List.setIfInBounds_toArray, List.set_cons_zero, List.set_cons_succ])
  refine Eq.mpr (if_pos (by rfl)) ?_
  go_simp
  refine (same_any _ _ 24 24 24 (jk 1 (xr (xr (xr zf a) b) c)) (jk 1 (xr (xr (xr zf c) a) b)) _ (by omega) ((Bx.out.below hS1 Bx.out.lt).reads) ((By.out.below hS1 By.out.lt).reads)).mono ?_
  rintro e wq2 ⟨rfl, hQ2⟩
  rw [sameA]
  refine hK.out _ _ (hS1.trans (hQ2.mono hS1.size)) (fun hS2 => ?_)
  (try simp only [Act.put, List.getElem_toArray, List.getElem_cons_zero, List.getElem_cons_succ, List.setIfInBounds_toArray, List.set_cons_zero, List.set_cons_succ])
  clear hK K
  refine wpAnyH_take (i := 25) (v := .bool true) rfl (by kernel_rfl) (by kernel_rfl) (by kernel_rfl) (fun _ _ _ h => h) (Or.inl ⟨rfl, fun W _ => by go_simp⟩) hS2 ?_
  (try simp only [Act.put, List.getElem_toArray, List.getElem_cons_zero, List.getElem_cons_succ, List.setIfInBounds_toArray, List.set_cons_zero, List.set_cons_succ])
  refine wpAnyH_take (i := 26) (v := .bool true) rfl (by kernel_rfl) (by kernel_rfl) (by kernel_rfl) (fun _ _ _ h => h) (Or.inl ⟨rfl, fun _ _ => exec_move _ rfl _ rfl⟩) hS2 ?_
  (try simp only [Act.put, List.getElem_toArray, List.getElem_cons_zero, List.getElem_cons_succ, List.setIfInBounds_toArray, List.set_cons_zero, List.set_cons_succ])
  refine wpAnyH_take (i := 27) (v := .slice (some ⟨gz, 0, none⟩) 24 24) rfl (by kernel_rfl) (by kernel_rfl) (by kernel_rfl) (fun _ _ _ h => h) (Or.inl ⟨rfl, fun _ _ => exec_move _ rfl _ rfl⟩) hS2 ?_
  (try simp only [Act.put, List.getElem_toArray, List.getElem_cons_zero, List.getElem_cons_succ, List.setIfInBounds_toArray, List.set_cons_zero, List.set_cons_succ])
  refine wpAnyH_take (i := 28) (v := .int .i64 24) rfl (by kernel_rfl) (by kernel_rfl) (by kernel_rfl) (fun _ _ _ h => h) (Or.inl ⟨rfl, fun _ _ => exec_move _ rfl _ rfl⟩) hS2 ?_
  (try simp only [Act.put, List.getElem_toArray, List.getElem_cons_zero, List.getElem_cons_succ, List.setIfInBounds_toArray, List.set_cons_zero, List.set_cons_succ])
  refine wpAnyH_take (i := 29) (v := .slice (some ⟨w.heap.size, 0, none⟩) 24 24) rfl (by kernel_rfl) (by kernel_rfl) (by kernel_rfl) (fun _ _ _ h => h) (Or.inl ⟨rfl, fun W _ => exec_cutU 63 _ _ rfl (.pointer (some ⟨w.heap.size, 0, none⟩)) (.int .i64 24) _ rfl rfl (cut24 ⟨w.heap.size, 0, none⟩ W)⟩) hS2 ?_
  (try simp only [Act.put, List.getElem_toArray, List.getElem_cons_zero, List.getElem_cons_succ, List.setIfInBounds_toArray, List.set_cons_zero, List.set_cons_succ])
  refine wpAnyH_ready (rs := [30]) (by kernel_rfl) (by simp) (AllReadyH.cons rfl (fun K hK => ?_) AllReadyH.nil)
  (try simp only [Act.put, List.getElem_toArray, List.getElem_cons_zero, List.getElem_cons_succ, List.setIfInBounds_toArray, List.set_cons_zero, List.set_cons_succ])
  refine Eq.mpr (if_pos (by rfl)) ?_
  go_simp
  refine (same_any _ _ 24 24 24 (jk 1 (xr (xr (xr zf a) b) b)) a _ (by omega) ((Bz.out.below hS2 Bz.out.lt).reads) ((Blk.reads (Ka.out.below (Xv.out.trans (hS2.mono Xv.out.size)) Ka.out.lt)).less (by omega))).mono ?_
  rintro e wq3 ⟨rfl, hQ3⟩
  rw [sameB]
  refine hK.out _ _ (hS2.trans (hQ3.mono hS2.size)) (fun hS3 => ?_)
  (try simp only [Act.put, List.getElem_toArray, List.getElem_cons_zero, List.getElem_cons_succ, List.setIfInBounds_toArray, List.set_cons_zero, List.set_cons_succ])
  clear hK K
  refine wpAnyH_take (i := 31) (v := .bool true) rfl (by kernel_rfl) (by kernel_rfl) (by kernel_rfl) (fun _ _ _ h => h) (Or.inl ⟨rfl, fun W _ => by go_simp⟩) hS3 ?_
  (try simp only [Act.put, List.getElem_toArray, List.getElem_cons_zero, List.getElem_cons_succ, List.setIfInBounds_toArray, List.set_cons_zero, List.set_cons_succ])
  refine wpAnyH_take (i := 32) (v := .bool true) rfl (by kernel_rfl) (by kernel_rfl) (by kernel_rfl) (fun _ _ _ h => h) (Or.inl ⟨rfl, fun _ _ => exec_move _ rfl _ rfl⟩) hS3 ?_
  (try simp only [Act.put, List.getElem_toArray, List.getElem_cons_zero, List.getElem_cons_succ, List.setIfInBounds_toArray, List.set_cons_zero, List.set_cons_succ])
  refine wpAnyH_take (i := 33) (v := .slice (some ⟨gu, 0, none⟩) 24 24) rfl (by kernel_rfl) (by kernel_rfl) (by kernel_rfl) (fun _ _ _ h => h) (Or.inl ⟨rfl, fun _ _ => exec_move _ rfl _ rfl⟩) hS3 ?_
  (try simp only [Act.put, List.getElem_toArray, List.getElem_cons_zero, List.getElem_cons_succ, List.setIfInBounds_toArray, List.set_cons_zero, List.set_cons_succ])
  refine wpAnyH_ready (rs := [34]) (by kernel_rfl) (by simp) (AllReadyH.cons rfl (fun K hK => ?_) AllReadyH.nil)
  (try simp only [Act.put, List.getElem_toArray, List.getElem_cons_zero, List.getElem_cons_succ, List.setIfInBounds_toArray, List.set_cons_zero, List.set_cons_succ])
  refine Eq.mpr (if_pos (by rfl)) ?_
  go_simp
  refine (right_odd _ 24 24 (jk 2 (xr (xr zf a) b)) (⟨.inr rfl, .inr (.inl rfl)⟩) _ (ltU Ha.out Hb.out) ((Bu.out.below hS3 Bu.out.lt).reads) (oddU Ha.out Hb.out)).mono ?_
  rintro e wq4 ⟨rfl, hQ4e⟩
  have hQ4 : Below wq3.heap.size wq3 wq4 := by rw [hQ4e]; exact Below.refl _ _
  clear hQ4e
  refine hK.out _ _ (hS3.trans (hQ4.mono hS3.size)) (fun hS4 => ?_)
  (try simp only [Act.put, List.getElem_toArray, List.getElem_cons_zero, List.getElem_cons_succ, List.setIfInBounds_toArray, List.set_cons_zero, List.set_cons_succ])
  clear hK K
  refine wpAnyH_take (i := 35) (v := .bool true) rfl (by kernel_rfl) (by kernel_rfl) (by kernel_rfl) (fun _ _ _ h => h) (Or.inl ⟨rfl, fun W _ => by go_simp⟩) hS4 ?_
  (try simp only [Act.put, List.getElem_toArray, List.getElem_cons_zero, List.getElem_cons_succ, List.setIfInBounds_toArray, List.set_cons_zero, List.set_cons_succ])
  refine wpAnyH_take (i := 36) (v := .bool true) rfl (by kernel_rfl) (by kernel_rfl) (by kernel_rfl) (fun _ _ _ h => h) (Or.inl ⟨rfl, fun W _ => by go_simp⟩) hS4 ?_
  (try simp only [Act.put, List.getElem_toArray, List.getElem_cons_zero, List.getElem_cons_succ, List.setIfInBounds_toArray, List.set_cons_zero, List.set_cons_succ])
  refine wpAnyH_take (i := 37) (v := .bool true) rfl (by kernel_rfl) (by kernel_rfl) (by kernel_rfl) (fun _ _ _ h => h) (Or.inl ⟨rfl, fun _ _ => exec_move _ rfl _ rfl⟩) hS4 ?_
  (try simp only [Act.put, List.getElem_toArray, List.getElem_cons_zero, List.getElem_cons_succ, List.setIfInBounds_toArray, List.set_cons_zero, List.set_cons_succ])
  refine wpAnyH_take (i := 38) (v := .slice (some ⟨gu, 0, none⟩) 24 24) rfl (by kernel_rfl) (by kernel_rfl) (by kernel_rfl) (fun _ _ _ h => h) (Or.inl ⟨rfl, fun _ _ => exec_move _ rfl _ rfl⟩) hS4 ?_
  (try simp only [Act.put, List.getElem_toArray, List.getElem_cons_zero, List.getElem_cons_succ, List.setIfInBounds_toArray, List.set_cons_zero, List.set_cons_succ])
  refine wpAnyH_take (i := 39) (v := .slice (some ⟨gv, 0, none⟩) 24 24) rfl (by kernel_rfl) (by kernel_rfl) (by kernel_rfl) (fun _ _ _ h => h) (Or.inl ⟨rfl, fun _ _ => exec_move _ rfl _ rfl⟩) hS4 ?_
  (try simp only [Act.put, List.getElem_toArray, List.getElem_cons_zero, List.getElem_cons_succ, List.setIfInBounds_toArray, List.set_cons_zero, List.set_cons_succ])
  refine wpAnyH_take (i := 41) (v := .int .i64 24) rfl (by kernel_rfl) (by kernel_rfl) (by kernel_rfl) (fun _ _ _ h => h) (Or.inl ⟨rfl, fun _ _ => exec_move _ rfl _ rfl⟩) hS4 ?_
  (try simp only [Act.put, List.getElem_toArray, List.getElem_cons_zero, List.getElem_cons_succ, List.setIfInBounds_toArray, List.set_cons_zero, List.set_cons_succ])
  refine wpAnyH_take (i := 42) (v := .slice (some ⟨w.heap.size + 1, 0, none⟩) 24 24) rfl (by kernel_rfl) (by kernel_rfl) (by kernel_rfl) (fun _ _ _ h => h) (Or.inl ⟨rfl, fun W _ => exec_cutU 63 _ _ rfl (.pointer (some ⟨w.heap.size + 1, 0, none⟩)) (.int .i64 24) _ rfl rfl (cut24 ⟨w.heap.size + 1, 0, none⟩ W)⟩) hS4 ?_
  (try simp only [Act.put, List.getElem_toArray, List.getElem_cons_zero, List.getElem_cons_succ, List.setIfInBounds_toArray, List.set_cons_zero, List.set_cons_succ])
  refine wpAnyH_take (i := 43) (v := .int .i64 24) rfl (by kernel_rfl) (by kernel_rfl) (by kernel_rfl) (fun _ _ _ h => h) (Or.inl ⟨rfl, fun _ _ => exec_move _ rfl _ rfl⟩) hS4 ?_
  (try simp only [Act.put, List.getElem_toArray, List.getElem_cons_zero, List.getElem_cons_succ, List.setIfInBounds_toArray, List.set_cons_zero, List.set_cons_succ])
  refine wpAnyH_take (i := 44) (v := .slice (some ⟨w.heap.size + 1 + 1, 0, none⟩) 24 24) rfl (by kernel_rfl) (by kernel_rfl) (by kernel_rfl) (fun _ _ _ h => h) (Or.inl ⟨rfl, fun W _ => exec_cutU 63 _ _ rfl (.pointer (some ⟨w.heap.size + 1 + 1, 0, none⟩)) (.int .i64 24) _ rfl rfl (cut24 ⟨w.heap.size + 1 + 1, 0, none⟩ W)⟩) hS4 ?_
  (try simp only [Act.put, List.getElem_toArray, List.getElem_cons_zero, List.getElem_cons_succ, List.setIfInBounds_toArray, List.set_cons_zero, List.set_cons_succ])
  refine wpAnyH_ready (rs := [40]) (by kernel_rfl) (by simp) (AllReadyH.cons rfl (fun K hK => ?_) AllReadyH.nil)
  (try simp only [Act.put, List.getElem_toArray, List.getElem_cons_zero, List.getElem_cons_succ, List.setIfInBounds_toArray, List.set_cons_zero, List.set_cons_succ])
  refine Eq.mpr (if_pos (by rfl)) ?_
  go_simp
  refine (same_any _ _ 24 24 24 (jk 2 (xr (xr zf a) b)) (jk 2 (xr (xr zf a) c)) _ (by omega) ((Bu.out.below hS4 Bu.out.lt).reads) ((Bv.out.below hS4 Bv.out.lt).reads)).mono ?_
  rintro e wq5 ⟨rfl, hQ5⟩
  refine hK.out _ _ (hS4.trans (hQ5.mono hS4.size)) (fun hS5 => ?_)
  (try simp only [Act.put, List.getElem_toArray, List.getElem_cons_zero, List.getElem_cons_succ, List.setIfInBounds_toArray, List.set_cons_zero, List.set_cons_succ])
  clear hK K
  refine wpAnyH_ready (rs := [45]) (by kernel_rfl) (by simp) (AllReadyH.cons rfl (fun K hK => ?_) AllReadyH.nil)
  (try simp only [Act.put, List.getElem_toArray, List.getElem_cons_zero, List.getElem_cons_succ, List.setIfInBounds_toArray, List.set_cons_zero, List.set_cons_succ])
  refine Eq.mpr (if_pos (by rfl)) ?_
  go_simp
  refine (alike_any _ _ 24 24 24 b c _ (by omega) Hb.out Hc.out ((Blk.reads (Kb.out.below (Xv.out.trans (hS5.mono Xv.out.size)) Kb.out.lt)).less (by omega)) ((Blk.reads (Kc.out.below (Xv.out.trans (hS5.mono Xv.out.size)) Kc.out.lt)).less (by omega))).mono ?_
  rintro e wq6 ⟨rfl, hQ6⟩
  refine hK.out _ _ (hS5.trans (hQ6.mono hS5.size)) (fun hS6 => ?_)
  (try simp only [Act.put, List.getElem_toArray, List.getElem_cons_zero, List.getElem_cons_succ, List.setIfInBounds_toArray, List.set_cons_zero, List.set_cons_succ])
  clear hK K
  refine wpAnyH_take (i := 46) (v := .bool true) rfl (by kernel_rfl) (by kernel_rfl) (by kernel_rfl) (fun _ _ _ h => h) (Or.inl ⟨rfl, fun _ _ => exec_eqbool _ _ rfl _ _ rfl rfl (sameC Ha.out Hb.out Hc.out)⟩) hS6 ?_
  (try simp only [Act.put, List.getElem_toArray, List.getElem_cons_zero, List.getElem_cons_succ, List.setIfInBounds_toArray, List.set_cons_zero, List.set_cons_succ])
  refine wpAnyH_take (i := 47) (v := .bool true) rfl (by kernel_rfl) (by kernel_rfl) (by kernel_rfl) (fun _ _ _ h => h) (Or.inl ⟨rfl, fun W _ => by go_simp⟩) hS6 ?_
  (try simp only [Act.put, List.getElem_toArray, List.getElem_cons_zero, List.getElem_cons_succ, List.setIfInBounds_toArray, List.set_cons_zero, List.set_cons_succ])
  refine wpAnyH_take (i := 48) (v := .bool true) rfl (by kernel_rfl) (by kernel_rfl) (by kernel_rfl) (fun _ _ _ h => h) (Or.inl ⟨rfl, fun _ _ => exec_assign _ rfl _ rfl⟩) hS6 ?_
  (try simp only [Act.put, List.getElem_toArray, List.getElem_cons_zero, List.getElem_cons_succ, List.setIfInBounds_toArray, List.set_cons_zero, List.set_cons_succ])
  refine wpAnyH_done (by kernel_rfl) ?_ _
  have XE := hid (Xv.out.trans (hS6.mono Xv.out.size))
  clear hS0 hS1 hS2 hS3 hS4 hS5
  go_wp2_with fail
  go_ret
  exact ⟨rfl, HB3.out.trans (XE.out.mono HB3.out.size)⟩
theorem join_true (a b c : Nat → Nat) (l : Bool) (w : World) (hg : Laid w) (ha : ∀ i, i < 24 → a i < 256) (hb : ∀ i, i < 24 → b i < 256) (hc : ∀ i, i < 24 → c i < 256) :
    Calls Tryz.prog 8 #[.agg (row 24 (b8 a)), .agg (row 24 (b8 b)), .agg (row 24 (b8 c)), .bool l] w fun e w' => e = .returned (.bool true) ∧ Below w.heap.size w w' := by
  cases l
  · exact j16 a b c w hg ha hb hc
  · exact j24 a b c w hg ha hb hc
end Go.Proofs.YtaeleohjikheiaaGreatDoor.Pt.Joined
