/-
  What right of lockboxlaw07 returns; AES of the example.
-/
import Derived.Test.YtmmgimpokpgnaaaGreatDoorMac3
import Derived.Test.YtmmgimpokpgnaaaGreatDoorAesCmac
namespace Go.Proofs.YtmmgimpokpgnaaaGreatDoor.Bk
open Mem Go.ChangeShapes Go.WideShapes Go.ChangeAt Go.RowKit
set_option maxRecDepth 100000 in
set_option maxHeartbeats 1000000 in
theorem right7_all (z : Int) (k : Nat) (hz : z = (k : Int)) (hk : k = 1 ∨ k = 2 ∨ k = 3) (A : Option Addr) (L c : Nat) (key : Nat → Nat) (w : World) (hR : Reads w w.heap.size A L key) :
    Calls Tryz.prog 29 #[.int .i64 z, .slice A L c] w fun e w' => ∃ v, e = .returned v ∧ Mem.Own w' w.heap.size 5 1 v (rn k) (rk L key) ∧ Below w.heap.size w w' := by
  subst hz
  have HR := hid hR
  clear hR
  have hm : ((k : Int) % 4) = (k : Int) := by omega
  have hB1 : Below w.heap.size w (w.alloc (.cells #[.int .i64 16, .int .i64 16, .int .i64 24, .int .i64 4] 3)) := (Below.refl _ _).alloc (Nat.le_refl _) _
  have hblk := Blk.fresh w 3 #[.int .i64 16, .int .i64 16, .int .i64 24, .int .i64 4]
  have hcell : (w.alloc (.cells #[.int .i64 16, .int .i64 16, .int .i64 24, .int .i64 4] 3)).cell? ⟨w.heap.size, k, none⟩ = some (.int .i64 (rn k : Int)) := by
    rw [hblk.cell]
    rcases hk with rfl | rfl | rfl <;> rfl
  have HB1 := hid hB1
  have hrn := (rn_le k).1
  clear hblk
  go_enter Tryz.func29, Tryz.ntmps29
  go_wp2_with fail
  clear hcell hm hB1
  go_loopw [6, 7] (fun v y wr => ∃ i : Nat, i ≤ rn k ∧ y = .int .i64 (i : Int) ∧ Mem.Own wr w.heap.size 5 1 v i (rk L key) ∧ Below w.heap.size w wr) (fun _ y _ => rn k - (intOf y).toNat)
  case atStart => exact ⟨0, by omega, rfl, Mem.Own.nil _ _ _ _ _, HB1.out⟩
  case round =>
    clear HB1
    obtain ⟨i, hi, rfl, hov, hBr⟩ := hrel
    obtain ⟨A', c', rfl, hc', -⟩ := hov.slice'
    have Hov := hid hov
    have HBr := hid hBr
    clear hov hBr
    by_cases hlt : i < rn k
    · have hovA : Mem.Own (wr.alloc (.cells #[.int .u8 0] 5)) w.heap.size 5 1 (.slice A' i c') i (rk L key) := Hov.out.alloc _
      have hRA : Reads (wr.alloc (.cells #[.int .u8 0] 5)) (wr.heap.size + 1) (some ⟨wr.heap.size, 0, none⟩) 1 (fun _ => 0) := fun _ => ⟨_, rfl, Nat.lt_succ_self _, fun j hj => by
        have : j = 0 := by omega
        subst this
        exact (Blk.fresh wr 5 #[.int .u8 0]).cell 0⟩
      have hBa : Below w.heap.size w (wr.alloc (.cells #[.int .u8 0] 5)) := HBr.out.alloc HBr.out.size _
      have HovA := hid hovA
      have HRA := hid hRA
      have HBa := hid hBa
      clear hovA hRA hBa
      go_wp2_with (at_builtin; refine wpl_app_gen rfl _ _ 22 rfl w.heap.size 5 (.int .u8 0) Tryz.underlying22 info_u8 rfl _ i _ rfl HovA.out (some ⟨wr.heap.size, 0, none⟩) 1 1 _ _ HRA.out (fun h => by cases h) rfl (by omega) (by have := HBa.out.size; omega) ?_)
      intro v3 w3 ho3 hB3
      obtain ⟨A3, c3, rfl, hc3, -⟩ := ho3.slice'
      have HB3 := hid (HBa.out.trans hB3)
      by_cases hL0 : 0 < L
      · have hL0I : (L : Int) > 0 := by omega
        obtain ⟨ad, rfl, had, hcs⟩ := HR.out hL0
        have hjl : i % L < L := Nat.mod_lt _ hL0
        have hcx : w3.cell? (ad.add (i % L)) = some (.int .u8 ((key (i % L) : Nat) : Int)) := (HB3.out.cell (p := ad.add (i % L)) (by rw [add_block]; exact had)).trans (hcs _ hjl)
        have hmod : (i : Int) % (L : Int) = ((i % L : Nat) : Int) := by simp
        obtain ⟨g, rfl, hgb, hgl, hcg, hfg, hoP⟩ := Bk.Own.put ho3 (Nat.lt_succ_self i) (key (i % L))
        have HoP := hid hoP
        clear hcs ho3 hoP hB3
        have Hx : Hid (rk L key i = key (i % L)) := hid (by unfold rk; rw [if_pos hL0])
        generalize i % L = j at *
        go_wp2_with (first
          | (with_reducible refine wpl_sl1 rfl 22 _ _ rfl ad L c rfl .i64 _ rfl j hmod 5 Tryz.underlying22 hjl i8q ?_)
          | (with_reducible refine wpl_ld rfl 5 _ rfl _ rfl .u8 Tryz.underlying5 _ hcx ?_)
          | (with_reducible refine wpl_sl1 rfl 22 _ _ rfl ⟨g, 0, none⟩ (i + 1) c3 rfl .i64 _ rfl i rfl 5 Tryz.underlying22 (Nat.lt_succ_self i) i8q ?_)
          | (with_reducible refine wpl_st rfl 5 _ _ rfl ⟨g, i, none⟩ rfl .u8 _ rfl i8q _ hcg hfg ?_))
        refine ⟨⟨i + 1, by omega, val_int (by omega), HoP.out.ext (fun q hq => ?_), HB3.out.setCell (by exact hgb) _⟩, by simp [intOf]; omega⟩
        by_cases hqi : q = i
        · subst hqi; rw [upd_same, Hx.out]
        · rw [upd_other _ _ _ _ hqi]; unfold cat; rw [if_pos (by omega)]
      · have hL0I : ¬ (L : Int) > 0 := by omega
        go_wp2_with fail
        go_round
        case rel =>
          refine ⟨i + 1, by omega, val_int (by omega), ho3.ext (fun q hq => ?_), HB3.out⟩
          unfold cat rk
          rw [if_neg hL0]
          split <;> rfl
        case measure => simp [intOf]; omega
    · have hltI : ¬ (i : Int) < (rn k : Int) := by omega
      go_wp2_with fail
      go_ret
      have : i = rn k := by omega
      subst this
      exact ⟨_, rfl, Hov.out, HBr.out⟩
theorem right7_any (z : Int) (k : Nat) (hz : z = (k : Int)) (hk : k = 1 ∨ k = 2 ∨ k = 3) (A : Option Addr) (L c : Nat) (key : Nat → Nat) (w : World) (_hL : L ≤ 1000) (hR : Reads w w.heap.size A L key) :
    Calls Tryz.prog 29 #[.int .i64 z, .slice A L c] w fun e w' => ∃ v, e = .returned v ∧ Mem.Own w' w.heap.size 5 1 v (rn k) (rk L key) ∧ Below w.heap.size w w' := right7_all z k hz hk A L c key w hR
end Go.Proofs.YtmmgimpokpgnaaaGreatDoor.Bk
