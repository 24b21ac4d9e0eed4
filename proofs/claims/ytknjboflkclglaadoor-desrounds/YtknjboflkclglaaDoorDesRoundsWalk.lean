/-
  DesRounds returns true: its walk.
-/
import Derived.Test.YtknjboflkclglaaDoorAwake03
import Derived.Test.YtknjboflkclglaaDoorRef03K
namespace Go.Proofs.YtknjboflkclglaaDoor.Des
open Go.ChangeShapes Go.WideShapes Go.ChangeAt Go.RowKit Mem
theorem exec_lds {P : Program} {o : Oper} {a : Act} {w : World} (ty : TypeId) (x : Operand) (ho : o.op = .load ty x) (p : Addr) (hx : a.eval x = .pointer (some p)) (e : TypeId) (hu : P.underlying ty = some (.slice e)) (v : Value) (hv : w.cell? p = some v) : (execOp a.eval o).run P w = .ok (.value v) w := by
  have hr : (Instr.loadAt ty (.pointer (some p))).run P w = .ok v w := by
    simp [Instr.loadAt, Instr.sureAddr, loadVar, isAgg, Sem.run_bind, run_underlying hu, hv]
  unfold execOp
  simp only [ho, hx, hr, Sem.run_bind, Sem.run_pure, Result.andThen_ok]
theorem wps_sl1 {P : Program} {ops : Array Oper} {rest : List Oper} {o : Oper} {a : Act} {w : World} {Q : Act → Prop} (hgd : o.guard = none) (ty : TypeId) (x ix : Operand) (ho : o.op = .indexAddr ty x ix) (ad : Addr) (n c : Nat) (hx : a.eval x = .slice (some ad) n c) (kd : IntKind) (z : Int) (hix : a.eval ix = .int kd z) (k : Nat) (hz : z = (k : Int))
    (e : TypeId) (hu : P.underlying ty = some (.slice e)) (hk : k < n) (hs : (P.info? e).map (·.size) = some 1) (h : wpStill P ops w Q rest (a.put o.dst (.pointer (some (ad.add k))))) : wpStill P ops w Q (o :: rest) a :=
  wps_val hgd _ (exec_sl1 ty x ix ho ad n c hx kd z hix k hz e hu hk hs) h
theorem bit_ne (x t : Nat) (hx : x < 281474976710656) (ht : t < 48) : (IntKind.i64.wrap (bits .and .u64 ((x : Int) / 2 ^ min (IntKind.u64.wrap (IntKind.i64.wrap (47 - (t : Int)))).toNat 64) 1) != ((bitL 48 x t : Nat) : Int)) = false := by
  have e1 : IntKind.i64.wrap (47 - (t : Int)) = ((47 - t : Nat) : Int) := wrap_i64 _ _ (by omega) (by omega) (by omega)
  rw [e1, u64_wrap (47 - t) (by omega) _ rfl, Int.toNat_natCast, Nat.min_eq_left (by omega), and_one x (47 - t) (by omega), wrap_i64 _ _ rfl (by omega) (by omega)]
  unfold bitL
  rw [show 48 - 1 - t = 47 - t by omega]
  simp
theorem iSI : (Tryd.prog.info? 41).map (·.size) = some 1 := by kernel_rfl
set_option maxRecDepth 100000 in
set_option maxHeartbeats 4000000 in
theorem desRounds_walk (f : Nat → Nat) (w : World) (hg : As.Laid w) (hf : ∀ i, i < 8 → f i < 256) :
    Calls Tryd.prog 4 #[.agg (row 8 (b8 f))] w fun e w' => e = .returned (.bool true) ∧ Below w.heap.size w w' := by
  have Hf : Hid (By8 f) := hid hf
  have Hg := hid hg
  clear hf hg
  have hb1 := Blk.fresh w 34 (row 8 (b8 f))
  have hB1 : Below w.heap.size w (w.alloc (.cells (row 8 (b8 f)) 34)) := (Below.refl _ _).alloc (Nat.le_refl _) _
  go_enter Tryd.func4, Tryd.ntmps4
  go_wp2_with (with_reducible refine wpl_load rfl 34 _ rfl _ rfl 34 _ hb1 8 5 Tryd.underlying34 (i8a' _) ?_)
  refine (rounds_any f Hf.out _).mono ?_
  rintro e w1 ⟨rfl, hB2⟩
  have hb2 := (hb1.below hB2 hb1.lt).alloc (.cells (row 16 (iv .u64 (rounds (num f 8)))) 36)
  have hr2 := Blk.fresh w1 36 (row 16 (iv .u64 (rounds (num f 8))))
  have hB3 := hB1.trans (hB2.mono hB1.size)
  have hB4 := hB3.alloc hB3.size (.cells (row 16 (iv .u64 (rounds (num f 8)))) 36)
  clear hb1 hB1 hB2 hB3
  go_wp2_with (first
    | (with_reducible refine wpl_alloc rfl 36 rfl _ zR16 ?_)
    | (with_reducible refine wpl_store_newi rfl 36 _ _ rfl w1 _ 16 _ (fun _ => rfl) rfl rfl 36 iR16 (row_size _ _) ?_))
  generalize w1.alloc (.cells (row 16 (iv .u64 (rounds (num f 8)))) 36) = w2 at *
  generalize w1.heap.size = gr at *
  refine (keys_any _ _ f Hf.out _ hb2.reads).mono ?_
  rintro e w3 ⟨A3, c3, V, rfl, hL3, hK3, hB5⟩
  have hr3 := hr2.below hB5 hr2.lt
  have hB6 := hB4.trans (hB5.mono hB4.size)
  have hL := hid (Hg.out.below hB6)
  clear hb2 hr2 hB4 hB5
  go_wp2_with fail
  refine (awake_any _ hL.out).mono ?_
  rintro e w4 ⟨rfl, hB7⟩
  have hr4 := hr3.below hB7 hr3.lt
  have hL4 := hL3.below hB7 (Nat.le_refl _)
  have hK4 := hK3.below hB7
  have hB8 := hB6.trans (hB7.mono hB6.size)
  clear hr3 hL3 hK3 hB6 hB7 hL
  obtain ⟨a3, rfl, ha3⟩ := hL4.some
  have HR : Hid (∀ r, rounds (num f 8) r = rkOf (pk pc1 64 (num f 8) 56) r) := hid (fun _ => rfl)
  have HRl := hid (fun r => rounds_lt (num f 8) r)
  generalize rounds (num f 8) = R at *
  generalize pk pc1 64 (num f 8) 56 = B at *
  have Hr4 := hid hr4
  have HL4 := hid hL4
  have HK4 := hid hK4
  have HB8 := hid hB8
  clear hr4 hL4 hK4 hB8
  go_wp2_with fail
  go_loopw [5] (fun i wr => ∃ k q : Nat, k ≤ 16 ∧ i = .int .i64 k ∧ Hid (wr = w4.drewN q)) (fun i _ => 16 - (intOf i).toNat)
  case atStart => exact ⟨0, 0, by omega, rfl, hid rfl⟩
  case round =>
    obtain ⟨k, q, hk, rfl, HW⟩ := hrel
    rename World => wo
    by_cases hlt : k < 16
    · obtain ⟨Ak, ck, hVk, hck, hLk⟩ := HK4.out k hlt
      obtain ⟨ak, rfl, hak⟩ := hLk.some
      have HVk := hid hVk
      have HLk := hid hLk
      clear hVk hLk
      have hRk := HRl.out k
      go_wp2_with fail
      generalize Value.bool (decide ((k : Int) < 16)) = vb at *
      go_loopw [6] (fun j wr => ∃ t q : Nat, t ≤ 48 ∧ j = .int .i64 t ∧ Hid (wr = w4.drewN q)) (fun j _ => 48 - (intOf j).toNat)
      case atStart => exact ⟨0, q, by omega, rfl, HW⟩
      case round =>
        obtain ⟨t, q2, ht, rfl, HW2⟩ := hrel
        by_cases hlt2 : t < 48
        · have Q1 : Hid (wr.drew.cell? ⟨gr, k, none⟩ = some (.int .u64 ((R k : Nat) : Int))) := hid (by rw [HW2.out]; exact Hr4.out.vali k hlt)
          have Q2 : Hid (wr.drew.cell? (a3.add k) = some (.slice (some ak) 48 ck)) := hid (by rw [HW2.out]; exact (HL4.out.at k hlt).trans (by rw [HVk.out]))
          have Q3 : Hid (wr.drew.cell? (ak.add t) = some (.int .i64 ((bitL 48 (rkOf B k) t : Nat) : Int))) := hid (by rw [HW2.out]; exact HLk.out.at t hlt2)
          have HE := hid (bit_ne (R k) t hRk hlt2)
          rw [show bitL 48 (R k) t = bitL 48 (rkOf B k) t by rw [HR.out k]] at HE
          go_wp2_with fail
          refine wp_region_still_lit (by kernel_rfl) (by kernel_rfl) ?_
          change wpStill _ _ wr.drew (fun a' => _) _ _
          repeat (first
            | (with_reducible refine wps_at rfl 36 _ _ rfl _ rfl .i64 _ rfl k rfl 16 35 Tryd.underlying36 hlt iU64 ?_)
            | (with_reducible refine wps_ld rfl 35 _ rfl _ rfl .u64 Tryd.underlying35 _ Q1.out ?_)
            | (with_reducible refine wps_sl1 rfl 38 _ _ rfl a3 16 c3 rfl .i64 _ rfl k rfl 41 Tryd.underlying38 hlt iSI ?_)
            | (with_reducible refine wps_val rfl _ (exec_lds 41 _ rfl _ rfl 3 Tryd.underlying41 _ Q2.out) ?_)
            | (with_reducible refine wps_sl1 rfl 41 _ _ rfl ak 48 ck rfl .i64 _ rfl t rfl 3 Tryd.underlying41 hlt2 iI ?_)
            | (with_reducible refine wps_ld rfl 3 _ rfl _ rfl .i64 Tryd.underlying3 _ Q3.out ?_)
            | still_step)
          refine wpStill_nil ?_
          rw [HE.out]
          go_wp2_with fail
          go_round
          case rel => exact ⟨t + 1, q2 + 1, by omega, val_int (by omega), hid (by rw [HW2.out]; rfl)⟩
          case measure => simp [intOf]; omega
        · have Q1 : Hid (wr.cell? ⟨gr, k, none⟩ = some (.int .u64 ((R k : Nat) : Int))) := hid (by rw [HW2.out]; exact Hr4.out.vali k hlt)
          have hz : (((R k : Nat) : Int) / 281474976710656 != 0) = false := by
            have : R k / 281474976710656 = 0 := Nat.div_eq_of_lt hRk
            simp; omega
          go_wp2_with (first
            | (with_reducible refine wpl_at rfl 36 _ _ rfl _ rfl .i64 _ rfl k rfl 16 35 Tryd.underlying36 hlt iU64 ?_)
            | (with_reducible refine wpl_ld rfl 35 _ rfl _ rfl .u64 Tryd.underlying35 _ Q1.out ?_))
          exact ⟨⟨k + 1, q2, by omega, val_int (by omega), HW2⟩, by simp [intOf]; omega⟩
    · go_wp2_with fail
      go_ret
      exact ⟨rfl, by rw [HW.out]; exact below_drewN HB8.out q⟩
end Go.Proofs.YtknjboflkclglaaDoor.Des
