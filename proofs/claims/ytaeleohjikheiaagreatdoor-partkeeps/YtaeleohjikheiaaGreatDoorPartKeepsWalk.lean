/-
  PartKeeps returns true: its walk.
-/
import Derived.Test.YtaeleohjikheiaaGreatDoorLaw09
namespace Go.Proofs.YtaeleohjikheiaaGreatDoor.Pt.Keeps
open Mem Bk Md Mc Pt As Go.ChangeShapes Go.WideShapes Go.ChangeAt Go.RowKit
theorem i16k : (Tryz.prog.info? 65).map (·.size) = some 16 := by kernel_rfl
theorem z16k : (Tryz.prog.info? 65).map (·.zero) = some (some (.agg (row 16 (b8 fun _ => 0)))) := by kernel_rfl
theorem cutAll (ad : Addr) (w : World) : (Instr.sliceAt 65 (.pointer (some ad)) none none none).run Tryz.prog w = .ok (.slice (some ad) 16 16) w := by kernel_rfl
theorem exec_cutN {P : Program} {o : Oper} {a : Act} {w : World} (ty : TypeId) (x : Operand) (ho : o.op = .slice ty x none none none) (u v : Value) (hx : a.eval x = u) (hr : (Instr.sliceAt ty u none none none).run P w = .ok v w) : (execOp a.eval o).run P w = .ok (.value v) w := by
  subst hx
  unfold execOp
  simp [ho, hr]
theorem exec_eqT {P : Program} {o : Oper} {a : Act} {w : World} (ty : TypeId) (x y : Operand) (rt : TypeId) (ho : o.op = .binOp .eql ty x y rt) (n : Nat) (f g : Nat → Nat) (hx : a.eval x = .agg (row n (b8 f))) (hy : a.eval y = .agg (row n (b8 g))) (r : Bool) (h : eqB n f g = r) (e : TypeId)
    (ht : P.underlying ty = some (.array n e)) (he : P.underlying e = some (.int .u8)) (hs : (P.info? e).map (·.size) = some 1) (hm : P.eqGuardType P.depth ty = false) :
    (execOp a.eval o).run P w = .ok (.value (.bool r)) w := by
  subst h; exact exec_eq ty x y rt ho n f g hx hy e ht he hs hm
theorem eqA16 : Tryz.prog.eqGuardType Tryz.prog.depth 65 = false := by kernel_rfl
theorem bs2S (A0 A1 : Option Addr) (n0 c0 n1 c1 : Nat) (w : World) : (Instr.buildSlice 59 2 #[(0, .slice A0 n0 c0), (1, .slice A1 n1 c1)]).run Tryz.prog w = .ok (.slice (some ⟨w.heap.size, 0, none⟩) 2 2) (w.alloc (.cells #[.slice A0 n0 c0, .slice A1 n1 c1] 22)) := by kernel_rfl
theorem wp_bs2S {P : Program} {o : Oper} {a : Act} {w : World} {K : Act → World → Prop} {Q : Exit → Act → World → Prop} (t : TypeId) (p q : Operand) (ho : o.op = .buildSlice t 2 #[(0, p), (1, q)]) (u v : Value) (hp : a.eval p = u) (hq : a.eval q = v) (cs : Array Value) (e : TypeId)
    (hr : (Instr.buildSlice t 2 #[(0, u), (1, v)]).run P w = .ok (.slice (some ⟨w.heap.size, 0, none⟩) 2 2) (w.alloc (.cells cs e)))
    (h : K (a.put o.dst (.slice (some ⟨w.heap.size, 0, none⟩) 2 2)) (w.alloc (.cells cs e))) : o.wp P a w K Q := by
  unfold Oper.wp execOp
  simp only [ho, List.map_toArray, List.map_cons, List.map_nil, hp, hq, hr, Sem.run_bind, Sem.run_pure, Result.andThen_ok]
  exact h
set_option linter.unusedSimpArgs false in
set_option maxRecDepth 100000 in
set_option maxHeartbeats 1000000 in
theorem keeps_true (f g : Nat → Nat) (w : World) (hg : Laid w) (hf : ∀ i, i < 16 → f i < 256) (hgb : ∀ i, i < 16 → g i < 256) :
    Calls Tryz.prog 9 #[.agg (row 16 (b8 f)), .agg (row 16 (b8 g))] w fun e w' => e = .returned (.bool true) ∧ Below w.heap.size w w' := by
  have hB3 : Below w.heap.size w (((w.alloc (.cells (row 16 (b8 f)) 65)).alloc (.cells (row 16 (b8 g)) 65)).alloc (.cells (row 16 (b8 f)) 65)) := (((Below.refl _ w).alloc (Nat.le_refl _) _).alloc (by simp) _).alloc (by simp; omega) _
  have hbf : Blk ((w.alloc (.cells (row 16 (b8 f)) 65)).alloc (.cells (row 16 (b8 g)) 65)) w.heap.size 65 (row 16 (b8 f)) := (Blk.fresh _ _ _).alloc _
  have hbg : Blk ((w.alloc (.cells (row 16 (b8 f)) 65)).alloc (.cells (row 16 (b8 g)) 65)) (w.heap.size + 1) 65 (row 16 (b8 g)) := by
    have := Blk.fresh (w.alloc (.cells (row 16 (b8 f)) 65)) 65 (row 16 (b8 g))
    simpa using this
  have hbw : Blk (((w.alloc (.cells (row 16 (b8 f)) 65)).alloc (.cells (row 16 (b8 g)) 65)).alloc (.cells (row 16 (b8 f)) 65)) (w.heap.size + 1 + 1) 65 (row 16 (b8 f)) := by
    have := Blk.fresh ((w.alloc (.cells (row 16 (b8 f)) 65)).alloc (.cells (row 16 (b8 g)) 65)) 65 (row 16 (b8 f))
    simpa using this
  have Hbf := hid (hbf.alloc (.cells (row 16 (b8 f)) 65))
  have Hbg := hid (hbg.alloc (.cells (row 16 (b8 f)) 65))
  have Hbw := hid hbw
  have HB3 := hid hB3
  have Hf := hid hf
  have Hg := hid hgb
  have HG := hid hg
  clear hf hgb hg hbg hbw hB3
  go_enter Tryz.func9, Tryz.ntmps9
  go_wp2_with (first
    | (with_reducible refine wpl_load rfl 65 _ rfl w.heap.size rfl 65 _ hbf 16 5 Tryz.underlying65 (by rw [row_size]; exact i16k) ?_)
    | (with_reducible refine wpl_alloc rfl 65 rfl _ z16k ?_)
    | (with_reducible refine wpl_store_new rfl 65 _ _ rfl _ _ 16 _ rfl rfl 65 i16k (row_size _ _) ?_))
  clear hbf
  generalize ((w.alloc (.cells (row 16 (b8 f)) 65)).alloc (.cells (row 16 (b8 g)) 65)).alloc (.cells (row 16 (b8 f)) 65) = w3 at *
  refine (odd_any (some ⟨w.heap.size, 0, none⟩) 16 16 f _ (by omega) Hf.out (Blk.reads Hbf.out)).mono ?_
  rintro e w4 ⟨rfl, hb4, hB4⟩
  have HO4 := hid hb4
  have HX4 := hid hB4
  clear hb4 hB4
  go_wp2_with fail
  go_loopw [7] (fun y wr => ∃ (i : Nat) (m : Nat → Nat), i ≤ 16 ∧ y = .int .i64 (i : Int) ∧ Hid (∀ j, j < 16 → m j < 256) ∧ Hid (Blk wr w3.heap.size 5 (row 16 (b8 m))) ∧ Hid (Below w3.heap.size w3 wr)) (fun y _ => 16 - (intOf y).toNat)
  case atStart => exact ⟨0, _, by omega, rfl, hid (odF_lt Hf.out), HO4, HX4⟩
  case round =>
    clear HO4 HX4
    obtain ⟨i, m, hi, rfl, Hm, HO, HX⟩ := hrel
    by_cases hlt : i < 16
    · have hmk := Hm.out i hlt
      have hv1 := HO.out.val i hlt
      have hv2 := HO.out.free i
      go_wp2_with (first
        | (with_reducible refine wpl_slb rfl 22 _ _ rfl w3.heap.size 16 16 rfl .i64 _ rfl i rfl 5 Tryz.underlying22 hlt i8q ?_)
        | (with_reducible refine wpl_ld rfl 5 _ rfl _ rfl .u8 Tryz.underlying5 _ hv1 ?_)
        | (with_reducible refine wpl_st rfl 5 _ _ rfl _ rfl .u8 _ rfl i8q _ hv1 hv2 ?_))
      go_round
      case rel =>
        rw [show (255 : Int) = ((255 : Nat) : Int) from rfl, u8_xor_nat _ 255 hmk (by omega)]
        refine ⟨i + 1, upd m i (m i ^^^ 255), by omega, val_int (by omega), hid (fun j hj => ?_), hid (HO.out.put i _), hid (HX.out.setCell (Nat.le_refl _) _)⟩
        unfold upd
        split
        · exact Nat.xor_lt_two_pow (n := 8) hmk (by omega)
        · exact Hm.out j hj
      case measure => simp [intOf]; omega
    · have hiI : ¬ (i : Int) < 16 := by omega
      have HRf5 : Hid (Reads wr.drew wr.drew.heap.size (some ⟨w.heap.size, 0, none⟩) 16 f) := hid (Blk.reads (Hbf.out.below HX.out.drew Hbf.out.lt))
      have HRg5 : Hid (Reads wr.drew wr.drew.heap.size (some ⟨w.heap.size + 1, 0, none⟩) 16 g) := hid (Blk.reads (Hbg.out.below HX.out.drew Hbg.out.lt))
      clear HO Hm
      rename World => wr
      go_wp2_with fail
      refine wp_region_held_drew (S := fun W => Below wr.heap.size wr W) (by kernel_rfl) (Below.refl _ _).drew (fun hS0 => ?_)
      refine wpAnyH_take (i := 0) (v := .slice (some ⟨w.heap.size, 0, none⟩) 16 16) rfl (by kernel_rfl) (by kernel_rfl) (by kernel_rfl) (fun _ _ _ h => h) (Or.inl ⟨rfl, fun W _ => exec_cutN 65 _ rfl (.pointer (some ⟨w.heap.size, 0, none⟩)) _ rfl (cutAll ⟨w.heap.size, 0, none⟩ W)⟩) hS0 ?_
      (try simp only [Act.put, List.getElem_toArray, List.getElem_cons_zero, List.getElem_cons_succ, List.setIfInBounds_toArray, List.set_cons_zero, List.set_cons_succ])
      refine wpAnyH_take (i := 1) (v := .slice (some ⟨w.heap.size + 1, 0, none⟩) 16 16) rfl (by kernel_rfl) (by kernel_rfl) (by kernel_rfl) (fun _ _ _ h => h) (Or.inl ⟨rfl, fun W _ => exec_cutN 65 _ rfl (.pointer (some ⟨w.heap.size + 1, 0, none⟩)) _ rfl (cutAll ⟨w.heap.size + 1, 0, none⟩ W)⟩) hS0 ?_
      (try simp only [Act.put, List.getElem_toArray, List.getElem_cons_zero, List.getElem_cons_succ, List.setIfInBounds_toArray, List.set_cons_zero, List.set_cons_succ])
      refine wpAnyH_ready (rs := [2]) (by kernel_rfl) (by simp) (AllReadyH.cons rfl (fun K hK => ?_) AllReadyH.nil)
      (try simp only [Act.put, List.getElem_toArray, List.getElem_cons_zero, List.getElem_cons_succ, List.setIfInBounds_toArray, List.set_cons_zero, List.set_cons_succ])
      refine Eq.mpr (if_pos (by rfl)) ?_
      refine wp_bs2S 59 _ _ rfl _ _ rfl rfl _ _ (bs2S _ _ _ _ _ _ _) ?_
      refine hK.out _ _ (hS0.alloc hS0.size _) (fun hS1 => ?_)
      (try simp only [Act.put, List.getElem_toArray, List.getElem_cons_zero, List.getElem_cons_succ, List.setIfInBounds_toArray, List.set_cons_zero, List.set_cons_succ])
      clear hK K
      refine wpAnyH_ready (rs := [3]) (by kernel_rfl) (by simp) (AllReadyH.cons rfl (fun K hK => ?_) AllReadyH.nil)
      (try simp only [Act.put, List.getElem_toArray, List.getElem_cons_zero, List.getElem_cons_succ, List.setIfInBounds_toArray, List.set_cons_zero, List.set_cons_succ])
      refine Eq.mpr (if_pos (by rfl)) ?_
      go_simp
      refine (join2 1 16 (some ⟨w.heap.size, 0, none⟩) (some ⟨w.heap.size + 1, 0, none⟩) 16 16 f g _ fit116 HRf5.out HRg5.out Hf.out Hg.out).mono ?_
      rintro e wq2 ⟨gy, rfl, hby, hgy, hBy⟩
      refine hK.out _ _ (hS0.trans (hBy.mono hS0.size)) (fun hS2 => ?_)
      (try simp only [Act.put, List.getElem_toArray, List.getElem_cons_zero, List.getElem_cons_succ, List.setIfInBounds_toArray, List.set_cons_zero, List.set_cons_succ])
      clear hK K
      refine wpAnyH_take (i := 4) (v := .tuple #[.slice (some ⟨gy, 0, none⟩) 16 16, .nilIface]) rfl (by kernel_rfl) (by kernel_rfl) (by kernel_rfl) (fun _ _ _ h => h) (Or.inl ⟨rfl, fun _ _ => exec_move _ rfl _ rfl⟩) hS2 ?_
      (try simp only [Act.put, List.getElem_toArray, List.getElem_cons_zero, List.getElem_cons_succ, List.setIfInBounds_toArray, List.set_cons_zero, List.set_cons_succ])
      refine wpAnyH_take (i := 5) (v := .slice (some ⟨gy, 0, none⟩) 16 16) rfl (by kernel_rfl) (by kernel_rfl) (by kernel_rfl) (fun _ _ _ h => h) (Or.inl ⟨rfl, fun _ _ => exec_extract _ 0 rfl #[.slice (some ⟨gy, 0, none⟩) 16 16, .nilIface] rfl _ rfl⟩) hS2 ?_
      (try simp only [Act.put, List.getElem_toArray, List.getElem_cons_zero, List.getElem_cons_succ, List.setIfInBounds_toArray, List.set_cons_zero, List.set_cons_succ])
      refine wpAnyH_take (i := 6) (v := .nilIface) rfl (by kernel_rfl) (by kernel_rfl) (by kernel_rfl) (fun _ _ _ h => h) (Or.inl ⟨rfl, fun _ _ => exec_extract _ 1 rfl #[.slice (some ⟨gy, 0, none⟩) 16 16, .nilIface] rfl _ rfl⟩) hS2 ?_
      (try simp only [Act.put, List.getElem_toArray, List.getElem_cons_zero, List.getElem_cons_succ, List.setIfInBounds_toArray, List.set_cons_zero, List.set_cons_succ])
      refine wpAnyH_take (i := 7) (v := .slice (some ⟨gy, 0, none⟩) 16 16) rfl (by kernel_rfl) (by kernel_rfl) (by kernel_rfl) (fun _ _ _ h => h) (Or.inl ⟨rfl, fun _ _ => exec_assign _ rfl _ rfl⟩) hS2 ?_
      (try simp only [Act.put, List.getElem_toArray, List.getElem_cons_zero, List.getElem_cons_succ, List.setIfInBounds_toArray, List.set_cons_zero, List.set_cons_succ])
      refine wpAnyH_take (i := 8) (v := .nilIface) rfl (by kernel_rfl) (by kernel_rfl) (by kernel_rfl) (fun _ _ _ h => h) (Or.inl ⟨rfl, fun _ _ => exec_assign _ rfl _ rfl⟩) hS2 ?_
      (try simp only [Act.put, List.getElem_toArray, List.getElem_cons_zero, List.getElem_cons_succ, List.setIfInBounds_toArray, List.set_cons_zero, List.set_cons_succ])
      refine wpAnyH_done (by kernel_rfl) ?_ _
      have HX6 := hid (HX.out.trans (hS2.mono HX.out.size))
      have Hby := hid hby
      have HL6 : Hid (w3.heap.size ≤ gy) := hid (by have h1 := HX.out.size; have h2 : wr.heap.size ≤ gy := hgy; omega)
      have Hjb : Hid (∀ j, j < 16 → jk 1 (xr (xr zf f) g) j < 256) := hid (fun j hj => by unfold jk; rw [if_neg (by omega)]; exact xr_lt (xr_lt (zf_lt 16 j hj) (Hf.out j hj)) (Hg.out j hj))
      clear hS0 hS1 hS2 hby hBy HX HRf5 HRg5 hgy
      go_wp2_with fail
      go_loopw [10] (fun y wr => ∃ (i : Nat) (m : Nat → Nat), i ≤ 16 ∧ y = .int .i64 (i : Int) ∧ Hid (∀ j, j < 16 → m j < 256) ∧ Hid (Blk wr gy 5 (row 16 (b8 m))) ∧ Hid (Below w3.heap.size w3 wr)) (fun y _ => 16 - (intOf y).toNat)
      case atStart => exact ⟨0, _, by omega, rfl, Hjb, Hby, HX6⟩
      case round =>
        clear Hjb Hby HX6
        obtain ⟨i2, m, hi2, rfl, Hm, HO, HX⟩ := hrel
        by_cases hlt2 : i2 < 16
        · have hmk := Hm.out i2 hlt2
          have hv1 := HO.out.val i2 hlt2
          have hv2 := HO.out.free i2
          go_wp2_with (first
            | (with_reducible refine wpl_slb rfl 22 _ _ rfl gy 16 16 rfl .i64 _ rfl i2 rfl 5 Tryz.underlying22 hlt2 i8q ?_)
            | (with_reducible refine wpl_ld rfl 5 _ rfl _ rfl .u8 Tryz.underlying5 _ hv1 ?_)
            | (with_reducible refine wpl_st rfl 5 _ _ rfl _ rfl .u8 _ rfl i8q _ hv1 hv2 ?_))
          go_round
          case rel =>
            rw [show (255 : Int) = ((255 : Nat) : Int) from rfl, u8_xor_nat _ 255 hmk (by omega)]
            refine ⟨i2 + 1, upd m i2 (m i2 ^^^ 255), by omega, val_int (by omega), hid (fun j hj => ?_), hid (HO.out.put i2 _), hid (HX.out.setCell HL6.out _)⟩
            unfold upd
            split
            · exact Nat.xor_lt_two_pow (n := 8) hmk (by omega)
            · exact Hm.out j hj
          case measure => simp [intOf]; omega
        · have hiI2 : ¬ (i2 : Int) < 16 := by omega
          have HRf7 := hid (Blk.reads (Hbf.out.below HX.out Hbf.out.lt))
          have hcut := cutAll
          clear HO Hm
          rename World => wy
          go_wp2_with fail
          refine (value_aes (some ⟨w.heap.size, 0, none⟩) 16 16 f _ fit116 Hf.out HRf7.out).mono ?_
          rintro e w8 ⟨v8, rfl, ho8, hB8⟩
          have HX8 := hid (HX.out.trans (hB8.mono HX.out.size))
          clear ho8 hB8 HX HRf7 hcut
          go_wp2_with fail
          refine (awake9_any _ (HG.out.below (HB3.out.trans (HX8.out.mono HB3.out.size)))).mono ?_
          rintro e w9 ⟨rfl, hB9⟩
          have HX9 := hid (HX8.out.trans (hB9.mono HX8.out.size))
          have hbf9 := Hbf.out.below HX9.out Hbf.out.lt
          have hbw9 := Hbw.out.below HX9.out Hbw.out.lt
          have heq : eqB 16 f f = true := eqB_true (fun _ _ => rfl)
          clear hB9 HX8
          go_wp2_with (first
            | (with_reducible refine wpg_val rfl _ (exec_load 65 _ rfl w.heap.size rfl 65 16 _ hbf9 5 Tryz.underlying65 i16k) ?_)
            | (with_reducible refine wpg_val rfl _ (exec_load 65 _ rfl (w.heap.size + 1 + 1) rfl 65 16 _ hbw9 5 Tryz.underlying65 i16k) ?_)
            | (with_reducible refine wpg_val rfl _ (exec_eqT 65 _ _ _ rfl 16 _ _ rfl rfl _ heq 5 Tryz.underlying65 Tryz.underlying5 i8q eqA16) ?_))
          go_ret
          exact ⟨rfl, HB3.out.trans (HX9.out.mono HB3.out.size)⟩
end Go.Proofs.YtaeleohjikheiaaGreatDoor.Pt.Keeps
