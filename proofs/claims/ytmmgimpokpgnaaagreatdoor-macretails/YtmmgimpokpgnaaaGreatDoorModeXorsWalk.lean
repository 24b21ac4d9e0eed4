/-
  ModeXors returns true: its walk.
-/
import Derived.Test.YtmmgimpokpgnaaaGreatDoorAwake06
namespace Go.Proofs.YtmmgimpokpgnaaaGreatDoor.Md
open Mem Bk As Go.ChangeShapes Go.WideShapes Go.ChangeAt Go.RowKit
theorem bs8 (x : Int) (w : World) : (Instr.buildSlice 22 1 #[(0, .int .u8 x)]).run Tryz.prog w = .ok (.slice (some ⟨w.heap.size, 0, none⟩) 1 1) (w.alloc (.cells #[.int .u8 x] 5)) := by kernel_rfl
theorem exec_xor8 {P : Program} {o : Oper} {a : Act} {w : World} (t : TypeId) (x y : Operand) (rt : TypeId) (ho : o.op = .binOp .xor t x y rt) (p q : Int) (hx : a.eval x = .int .u8 p) (hy : a.eval y = .int .u8 q) (r : Int) (hr : bits .xor .u8 p q = r) : (execOp a.eval o).run P w = .ok (.value (.int .u8 r)) w := by
  have e : Op.intBits BinOp.xor IntKind.u8 p q = pure (.int .u8 (bits .xor .u8 p q)) := rfl
  unfold execOp
  simp [ho, hx, hy, eqGuard, binOp, e, hr]
set_option linter.unusedSimpArgs false in
set_option maxRecDepth 100000 in
set_option maxHeartbeats 1000000 in
theorem rxor_any (A A' : Option Addr) (n c c' : Nat) (f g : Nat → Nat) (w : World) (hn : n ≤ 1000) (hf : ∀ i, i < n → f i < 256) (hg : ∀ i, i < n → g i < 256) (hR : Reads w w.heap.size A n f) (hR' : Reads w w.heap.size A' n g) :
    Calls Tryz.prog 52 #[.slice A n c, .slice A' n c'] w fun e w' => ∃ v, e = .returned v ∧ Mem.Own w' w.heap.size 5 1 v n (xr f g) ∧ Below w.heap.size w w' := by
  have HR := hid hR
  have HR' := hid hR'
  have Hf := hid hf
  have Hg := hid hg
  clear hR hR' hf hg
  go_enter Tryz.func52, Tryz.ntmps52
  go_wp2_with fail
  go_loopw [5, 6] (fun v i wr => ∃ k : Nat, k ≤ n ∧ i = .int .i64 k ∧ Mem.Own wr w.heap.size 5 1 v k (xr f g) ∧ Below w.heap.size w wr) (fun _ i _ => n - (intOf i).toNat)
  case atStart => exact ⟨0, by omega, rfl, Mem.Own.nil _ _ _ _ _, Below.refl _ _⟩
  case round =>
    obtain ⟨k, hk, rfl, ho, hB⟩ := hrel
    obtain ⟨Av, cv, rfl, hcv⟩ := ho.slice
    have Ho := hid ho
    clear ho
    by_cases hlt : k < n
    · have hfk := Hf.out k hlt
      have hgk := Hg.out k hlt
      have hltI : (k : Int) < (n : Int) := by omega
      obtain ⟨ad, rfl, hbl, hcs⟩ := HR.out (by omega)
      obtain ⟨ad', rfl, hbl', hcs'⟩ := HR'.out (by omega)
      have hc := (hB.cell (p := ad.add k) (by rw [add_block]; exact hbl)).trans (hcs k hlt)
      have hc' := (hB.cell (p := ad'.add k) (by rw [add_block]; exact hbl')).trans (hcs' k hlt)
      clear hcs hcs'
      go_wp2_with fail
      have C1 : Hid (∀ W, Below w.heap.size wr W → W.cell? (ad.add k) = some (.int .u8 ((f k : Nat) : Int))) := hid fun W hW => (hW.cell (p := ad.add k) (by rw [add_block]; exact hbl)).trans hc
      have C2 : Hid (∀ W, Below w.heap.size wr W → W.cell? (ad'.add k) = some (.int .u8 ((g k : Nat) : Int))) := hid fun W hW => (hW.cell (p := ad'.add k) (by rw [add_block]; exact hbl')).trans hc'
      have HX : Hid (bits .xor .u8 ((f k : Nat) : Int) ((g k : Nat) : Int) = ((f k ^^^ g k : Nat) : Int)) := hid (u8_xor_nat _ _ hfk hgk)
      clear hc hc'
      have hsz := hB.size
      refine wp_region_held_drew (S := fun W => Below w.heap.size wr W) (by kernel_rfl) (Below.refl _ _).drew (fun hS0 => ?_)
      refine wpAnyH_take (i := 0) (v := .slice Av k cv) rfl (by kernel_rfl) (by kernel_rfl) (by kernel_rfl) (fun _ _ _ h => h) (Or.inl ⟨rfl, fun _ _ => exec_move _ rfl _ rfl⟩) hS0 ?_
      (try simp only [Act.put, List.getElem_toArray, List.getElem_cons_zero, List.getElem_cons_succ, List.setIfInBounds_toArray, List.set_cons_zero, List.set_cons_succ])
      refine wpAnyH_take (i := 1) (v := .slice (some ad) n c) rfl (by kernel_rfl) (by kernel_rfl) (by kernel_rfl) (fun _ _ _ h => h) (Or.inl ⟨rfl, fun _ _ => exec_move _ rfl _ rfl⟩) hS0 ?_
      (try simp only [Act.put, List.getElem_toArray, List.getElem_cons_zero, List.getElem_cons_succ, List.setIfInBounds_toArray, List.set_cons_zero, List.set_cons_succ])
      refine wpAnyH_take (i := 2) (v := .int .i64 (k : Int)) rfl (by kernel_rfl) (by kernel_rfl) (by kernel_rfl) (fun _ _ _ h => h) (Or.inl ⟨rfl, fun _ _ => exec_move _ rfl _ rfl⟩) hS0 ?_
      (try simp only [Act.put, List.getElem_toArray, List.getElem_cons_zero, List.getElem_cons_succ, List.setIfInBounds_toArray, List.set_cons_zero, List.set_cons_succ])
      refine wpAnyH_take (i := 3) (v := .pointer (some (ad.add k))) rfl (by kernel_rfl) (by kernel_rfl) (by kernel_rfl) (fun _ _ _ h => h) (Or.inl ⟨rfl, fun _ _ => exec_sl1 22 _ _ rfl ad n c rfl .i64 _ rfl k rfl 5 Tryz.underlying22 hlt i8q⟩) hS0 ?_
      (try simp only [Act.put, List.getElem_toArray, List.getElem_cons_zero, List.getElem_cons_succ, List.setIfInBounds_toArray, List.set_cons_zero, List.set_cons_succ])
      refine wpAnyH_take (i := 4) (v := .int .u8 ((f k : Nat) : Int)) rfl (by kernel_rfl) (by kernel_rfl) (by kernel_rfl) (fun _ _ _ h => h) (Or.inl ⟨rfl, fun W hW => exec_ld 5 _ rfl _ rfl .u8 Tryz.underlying5 _ (C1.out W hW)⟩) hS0 ?_
      (try simp only [Act.put, List.getElem_toArray, List.getElem_cons_zero, List.getElem_cons_succ, List.setIfInBounds_toArray, List.set_cons_zero, List.set_cons_succ])
      refine wpAnyH_take (i := 5) (v := (.slice (some ad') n c')) rfl (by kernel_rfl) (by kernel_rfl) (by kernel_rfl) (fun _ _ _ h => h) (Or.inl ⟨rfl, fun _ _ => exec_move _ rfl _ rfl⟩) hS0 ?_
      (try simp only [Act.put, List.getElem_toArray, List.getElem_cons_zero, List.getElem_cons_succ, List.setIfInBounds_toArray, List.set_cons_zero, List.set_cons_succ])
      refine wpAnyH_take (i := 6) (v := .int .i64 (k : Int)) rfl (by kernel_rfl) (by kernel_rfl) (by kernel_rfl) (fun _ _ _ h => h) (Or.inl ⟨rfl, fun _ _ => exec_move _ rfl _ rfl⟩) hS0 ?_
      (try simp only [Act.put, List.getElem_toArray, List.getElem_cons_zero, List.getElem_cons_succ, List.setIfInBounds_toArray, List.set_cons_zero, List.set_cons_succ])
      refine wpAnyH_take (i := 7) (v := (.pointer (some (ad'.add k)))) rfl (by kernel_rfl) (by kernel_rfl) (by kernel_rfl) (fun _ _ _ h => h) (Or.inl ⟨rfl, fun _ _ => exec_sl1 22 _ _ rfl ad' n c' rfl .i64 _ rfl k rfl 5 Tryz.underlying22 hlt i8q⟩) hS0 ?_
      (try simp only [Act.put, List.getElem_toArray, List.getElem_cons_zero, List.getElem_cons_succ, List.setIfInBounds_toArray, List.set_cons_zero, List.set_cons_succ])
      refine wpAnyH_take (i := 8) (v := .int .u8 ((g k : Nat) : Int)) rfl (by kernel_rfl) (by kernel_rfl) (by kernel_rfl) (fun _ _ _ h => h) (Or.inl ⟨rfl, fun W hW => exec_ld 5 _ rfl _ rfl .u8 Tryz.underlying5 _ (C2.out W hW)⟩) hS0 ?_
      (try simp only [Act.put, List.getElem_toArray, List.getElem_cons_zero, List.getElem_cons_succ, List.setIfInBounds_toArray, List.set_cons_zero, List.set_cons_succ])
      refine wpAnyH_take (i := 9) (v := .int .u8 ((f k ^^^ g k : Nat) : Int)) rfl (by kernel_rfl) (by kernel_rfl) (by kernel_rfl) (fun _ _ _ h => h) (Or.inl ⟨rfl, fun _ _ => exec_xor8 _ _ _ _ rfl _ _ rfl rfl _ HX.out⟩) hS0 ?_
      (try simp only [Act.put, List.getElem_toArray, List.getElem_cons_zero, List.getElem_cons_succ, List.setIfInBounds_toArray, List.set_cons_zero, List.set_cons_succ])
      refine wpAnyH_ready (rs := [10]) (by kernel_rfl) (by simp) (AllReadyH.cons rfl (fun K hK => ?_) AllReadyH.nil)
      (try simp only [Act.put, List.getElem_toArray, List.getElem_cons_zero, List.getElem_cons_succ, List.setIfInBounds_toArray, List.set_cons_zero, List.set_cons_succ])
      refine Eq.mpr (if_pos (by rfl)) ?_
      refine wp_bs 22 _ rfl (.int .u8 ((f k ^^^ g k : Nat) : Int)) rfl #[.int .u8 ((f k ^^^ g k : Nat) : Int)] 5 (bs8 _ _) ?_
      (try simp only [Act.put, List.getElem_toArray, List.getElem_cons_zero, List.getElem_cons_succ, List.setIfInBounds_toArray, List.set_cons_zero, List.set_cons_succ])
      refine hK.out _ _ (hS0.alloc (Nat.le_trans hsz hS0.size) _) (fun hS1 => ?_)
      (try simp only [Act.put, List.getElem_toArray, List.getElem_cons_zero, List.getElem_cons_succ, List.setIfInBounds_toArray, List.set_cons_zero, List.set_cons_succ])
      clear hK K
      refine wpAnyH_ready (rs := [11]) (by kernel_rfl) (by simp) (AllReadyH.cons rfl (fun K hK => ?_) AllReadyH.nil)
      (try simp only [Act.put, List.getElem_toArray, List.getElem_cons_zero, List.getElem_cons_succ, List.setIfInBounds_toArray, List.set_cons_zero, List.set_cons_succ])
      refine Eq.mpr (if_pos (by rfl)) ?_
      have ho7 : Mem.Own wr.drew w.heap.size 5 1 (.slice Av k cv) k (xr f g) := Ho.out
      have hRA : Reads (wr.drew.alloc (.cells #[.int .u8 ((f k ^^^ g k : Nat) : Int)] 5)) (wr.heap.size + 1) (some ⟨wr.heap.size, 0, none⟩) 1 (fun _ => f k ^^^ g k) := fun _ => ⟨_, rfl, Nat.lt_succ_self _, fun j hj => by
        have : j = 0 := by omega
        subst this
        exact (Blk.fresh wr.drew 5 #[.int .u8 ((f k ^^^ g k : Nat) : Int)]).cell 0⟩
      refine wp_app_gen _ _ 22 rfl w.heap.size 5 (.int .u8 0) Tryz.underlying22 info_u8 rfl _ k _ rfl (ho7.alloc _) (some ⟨wr.heap.size, 0, none⟩) 1 1 _ _ hRA (fun h => by cases h) rfl (by omega) (Nat.le_trans hsz hS1.size) ?_
      intro v' w1 ho1 hB1
      (try simp only [Act.put, List.getElem_toArray, List.getElem_cons_zero, List.getElem_cons_succ, List.setIfInBounds_toArray, List.set_cons_zero, List.set_cons_succ])
      refine hK.out _ _ (hS1.trans hB1) (fun hS2 => ?_)
      (try simp only [Act.put, List.getElem_toArray, List.getElem_cons_zero, List.getElem_cons_succ, List.setIfInBounds_toArray, List.set_cons_zero, List.set_cons_succ])
      clear hK K
      refine wpAnyH_take (i := 12) (v := v') rfl (by kernel_rfl) (by kernel_rfl) (by kernel_rfl) (fun _ _ _ h => h) (Or.inl ⟨rfl, fun _ _ => exec_assign _ rfl _ rfl⟩) hS2 ?_
      (try simp only [Act.put, List.getElem_toArray, List.getElem_cons_zero, List.getElem_cons_succ, List.setIfInBounds_toArray, List.set_cons_zero, List.set_cons_succ])
      refine wpAnyH_done (by kernel_rfl) ?_ _
      have Ho1 := hid ho1
      have HB1 := hid (hB.trans hS2)
      clear ho1 hB1 hS0 hS1 hS2 hRA ho7 C1 C2 hB Ho
      go_wp2_with fail
      go_round
      case rel =>
        refine ⟨k + 1, by omega, val_int (by omega), Ho1.out.ext (fun q hq => ?_), HB1.out⟩
        unfold cat
        by_cases hqk : q < k
        · rw [if_pos hqk]
        · rw [if_neg hqk]
          have : q = k := by omega
          subst this
          rfl
      case measure => simp [intOf]; omega
    · have hltI : ¬ (k : Int) < (n : Int) := by omega
      obtain rfl : k = n := by omega
      go_wp2_with fail
      go_ret
      exact ⟨_, rfl, Ho.out, hB⟩
end Go.Proofs.YtmmgimpokpgnaaaGreatDoor.Md
