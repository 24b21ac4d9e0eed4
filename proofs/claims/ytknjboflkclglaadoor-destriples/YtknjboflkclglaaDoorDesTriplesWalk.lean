/-
  DesTriples returns true: its walk.
-/
import Derived.Test.YtknjboflkclglaaDoorAwake03
import Derived.Test.YtknjboflkclglaaDoorRef03T
import Derived.Test.YtknjboflkclglaaDoorSame
namespace Go.Proofs.YtknjboflkclglaaDoor.Des
open Go.ChangeShapes Go.WideShapes Go.ChangeAt Go.RowKit Mem
/-- how long the key is made -/
def nF (L : Nat) : Nat → Nat := fun i => [8, 16, 24, L].getD i 0
theorem nF_le (L i : Nat) (hL : L ≤ 100) (hi : i < 4) : nF L i ≤ 100 := by
  unfold nF
  rcases (show i = 0 ∨ i = 1 ∨ i = 2 ∨ i = 3 by omega) with rfl | rfl | rfl | rfl
  · show 8 ≤ 100; omega
  · show 16 ≤ 100; omega
  · show 24 ≤ 100; omega
  · exact hL
theorem bsN (L : Nat) (w : World) : (Instr.buildSlice 41 4 #[(0, .int .i64 8), (1, .int .i64 16), (2, .int .i64 24), (3, .int .i64 (L : Int))]).run Tryd.prog w = .ok (.slice (some ⟨w.heap.size, 0, none⟩) 4 4) (w.alloc (.cells (row 4 (iv .i64 (nF L))) 3)) := by kernel_rfl
theorem wpl_bs4 {P : Program} {ops : Array Oper} {rest : List Oper} {o : Oper} {a : Act} {w : World} {Q : Exit → Act → World → Prop} (hgd : o.guard = none) (t : TypeId) (x y z u : Operand) (ho : o.op = .buildSlice t 4 #[(0, x), (1, y), (2, z), (3, u)]) (vx vy vz vu : Value) (hx : a.eval x = vx) (hy : a.eval y = vy) (hz : a.eval z = vz) (hu : a.eval u = vu) (v : Value) (w' : World)
    (hr : (Instr.buildSlice t 4 #[(0, vx), (1, vy), (2, vz), (3, vu)]).run P w = .ok v w') (h : wpList P ops Q rest (a.put o.dst v) w') : wpList P ops Q (o :: rest) a w := by
  refine wpList_plain hgd fun _ hK => ?_
  unfold Oper.wp execOp
  simp only [ho, List.map_toArray, List.map_cons, List.map_nil, hx, hy, hz, hu, hr, Sem.run_bind, Sem.run_pure, Result.andThen_ok]
  exact hK _ _ h
set_option maxRecDepth 100000 in
set_option maxHeartbeats 8000000 in
theorem desTriples_walk (A : Option Addr) (L c : Nat) (f : Nat → Nat) (wh : Nat) (b : Nat → Nat) (back : Bool) (w : World) (hg : As.Laid w) (hR : Reads w w.heap.size A L f) (hf : ∀ i, i < L → f i < 256) (hwh : wh < 256) (hb : ∀ i, i < 8 → b i < 256) :
    Calls Tryd.prog 6 #[.slice A L c, .int .u8 wh, .agg (row 8 (b8 b)), .bool back] w fun e w' => e = .returned (.bool true) ∧ Below w.heap.size w w' := by
  have Hf := hid hf
  have Hb : Hid (By8 b) := hid hb
  have hb0 := Blk.fresh w 34 (row 8 (b8 b))
  have hB0 : Below w.heap.size w (w.alloc (.cells (row 8 (b8 b)) 34)) := (Below.refl _ _).alloc (Nat.le_refl _) _
  have Hg := hid hg
  have hg0 := hid (hg.below hB0)
  have hR0 := (hR.below hB0).more hB0.size
  clear hf hb hg hR
  by_cases hL : 100 < L
  · go_enter Tryd.func6, Tryd.ntmps6
    go_wp2_with fail
    refine (awake_any _ hg0.out).mono ?_
    rintro e w1 ⟨rfl, hB1⟩
    have hg1 := hid (hg0.out.below hB1)
    have hB01 := hB0.trans (hB1.mono hB0.size)
    clear hB1 hB0 hb0 hR0 hg0
    go_wp2_with fail
    refine (awake_any _ hg1.out).mono ?_
    rintro e w2 ⟨rfl, hB2⟩
    go_wp2_with fail
    go_ret
    exact ⟨rfl, hB01.trans (hB2.mono hB01.size)⟩
  have hL1 : L ≤ 100 := by omega
  have hj : wh % 4 < 4 := by omega
  have hN := nF_le L (wh % 4) hL1 hj
  clear hL
  go_enter Tryd.func6, Tryd.ntmps6
  go_wp2_with fail
  refine (awake_any _ hg0.out).mono ?_
  rintro e w1 ⟨rfl, hB1⟩
  have hR1 := ((hR0.below hB1).more hB1.size).below ((Below.refl _ w1).alloc (Nat.le_refl _) (.cells (row 4 (iv .i64 (nF L))) 3))
  have hR2 : Reads (w1.alloc (.cells (row 4 (iv .i64 (nF L))) 3)) (w1.alloc (.cells (row 4 (iv .i64 (nF L))) 3)).heap.size A L f := hR1.more (by simp)
  have hb1 := (hb0.below hB1 hb0.lt).alloc (.cells (row 4 (iv .i64 (nF L))) 3)
  have hB01 := hB0.trans (hB1.mono hB0.size)
  have hB2 := hB01.alloc hB01.size (.cells (row 4 (iv .i64 (nF L))) 3)
  have hn2 := (Blk.fresh w1 3 (row 4 (iv .i64 (nF L)))).vali (wh % 4) hj
  have Hn2 := hid hn2
  clear hB1 hB0 hb0 hR0 hg0 hR1 hB01 hn2
  have tL1 : ((100 : Int) < (L : Int)) = False := by simp; omega
  go_wp2_with (first
    | (with_reducible refine wpl_bs4 rfl 41 _ _ _ _ rfl (.int .i64 8) (.int .i64 16) (.int .i64 24) (.int .i64 (L : Int)) rfl rfl rfl rfl _ _ (bsN L _) ?_)
    | (with_reducible refine wpl_slb rfl 41 _ _ rfl _ _ _ rfl .u8 _ rfl (wh % 4) (by omega) 3 Tryd.underlying41 hj iI ?_)
    | (with_reducible refine wpl_ld rfl 3 _ rfl _ rfl .i64 Tryd.underlying3 _ Hn2.out ?_))
  generalize w1.alloc (.cells (row 4 (iv .i64 (nF L))) 3) = w2 at *
  generalize w1.heap.size = g1 at *
  generalize nF L (wh % 4) = M at *
  have HR2 := hid hR2
  have Hb1 := hid hb1
  have HB2 := hid hB2
  clear hR2 hb1 hB2 Hn2
  by_cases hL0 : L = 0
  · have hLz : L ≤ 0 := by omega
    clear hL0
    go_loopw [10, 11] (fun v i wr => v = .slice none 0 0 ∧ i = .int .i64 0 ∧ wr = w2) (fun _ i _ => 0)
    case atStart => exact ⟨rfl, rfl, rfl⟩
    case round =>
      obtain ⟨rfl, rfl, rfl⟩ := hrel
      have hbW := Hb1.out
      have hBW := HB2.out
      by_cases hM : 0 < M
      · have tM : 0 < M := hM
        have hb3 := hbW
        go_wp2_with (with_reducible refine wpl_load rfl 34 _ rfl _ rfl 34 _ hb3 8 5 Tryd.underlying34 (i8a' _) ?_)
        refine (triple_bad none 0 0 (by omega) b back _).mono ?_
        rintro e w5 ⟨rfl, hB5⟩
        have hb5 := (hb3.below hB5 hb3.lt).alloc (.cells (row 8 (b8 fun _ => 0)) 34)
        have hc5 := Blk.fresh w5 34 (row 8 (b8 fun _ => 0))
        have hB6 := hBW.trans (hB5.mono hBW.size)
        have hB7 := hB6.alloc hB6.size (.cells (row 8 (b8 fun _ => 0)) 34)
        clear hB5 hB6 hb3 hbW
        go_wp2_with (first
          | (with_reducible refine wpl_alloc rfl 34 rfl _ z8 ?_)
          | (with_reducible refine wpl_store_new rfl 34 _ _ rfl _ _ 8 _ rfl rfl 34 i8a (row_size _ _) ?_))
        generalize w5.alloc (.cells (row 8 (b8 fun _ => 0)) 34) = w6 at *
        generalize w5.heap.size = gc at *
        refine (rtriple_bad none 0 0 (by omega) _ _ back _).mono ?_
        rintro e w' ⟨rfl, rfl⟩
        have hLd := hid (Hg.out.below hB7)
        have E0 : Hid (eqB 8 (fun _ => 0) (fun _ => 0) = true) := hid (eqB_true fun _ _ => rfl)
        go_wp2_with fail
        refine (As.code_hit 2 _ hLd.out).mono ?_
        rintro e w8 ⟨rfl, hB8⟩
        have hc8 := hc5.below hB8 hc5.lt
        have hB9 := hB7.trans (hB8.mono hB7.size)
        clear hc5 hB8 hB7 hb5
        go_wp2_with (first
          | ((with_reducible refine wpg_val ?_ _ (exec_load 34 _ rfl _ rfl 34 8 _ hc8 5 Tryd.underlying34 i8a) ?_); exact rfl)
          | ((with_reducible refine wpg_val ?_ _ (exec_build0 34 rfl _ built8z) ?_); exact rfl)
          | ((with_reducible refine wpg_val ?_ _ (exec_eqT 34 _ _ _ rfl 8 _ _ rfl rfl true E0.out 5 Tryd.underlying34 Tryd.underlying5 i8 eqA8) ?_); exact rfl))
        go_ret
        exact ⟨rfl, hB9⟩
      · have tM : M ≤ 0 := by omega
        have hb3 := hbW
        go_wp2_with (with_reducible refine wpl_load rfl 34 _ rfl _ rfl 34 _ hb3 8 5 Tryd.underlying34 (i8a' _) ?_)
        refine (triple_bad none 0 0 (by omega) b back _).mono ?_
        rintro e w5 ⟨rfl, hB5⟩
        have hb5 := (hb3.below hB5 hb3.lt).alloc (.cells (row 8 (b8 fun _ => 0)) 34)
        have hc5 := Blk.fresh w5 34 (row 8 (b8 fun _ => 0))
        have hB6 := hBW.trans (hB5.mono hBW.size)
        have hB7 := hB6.alloc hB6.size (.cells (row 8 (b8 fun _ => 0)) 34)
        clear hB5 hB6 hb3 hbW
        go_wp2_with (first
          | (with_reducible refine wpl_alloc rfl 34 rfl _ z8 ?_)
          | (with_reducible refine wpl_store_new rfl 34 _ _ rfl _ _ 8 _ rfl rfl 34 i8a (row_size _ _) ?_))
        generalize w5.alloc (.cells (row 8 (b8 fun _ => 0)) 34) = w6 at *
        generalize w5.heap.size = gc at *
        refine (rtriple_bad none 0 0 (by omega) _ _ back _).mono ?_
        rintro e w' ⟨rfl, rfl⟩
        have hLd := hid (Hg.out.below hB7)
        have E0 : Hid (eqB 8 (fun _ => 0) (fun _ => 0) = true) := hid (eqB_true fun _ _ => rfl)
        go_wp2_with fail
        refine (As.code_hit 2 _ hLd.out).mono ?_
        rintro e w8 ⟨rfl, hB8⟩
        have hc8 := hc5.below hB8 hc5.lt
        have hB9 := hB7.trans (hB8.mono hB7.size)
        clear hc5 hB8 hB7 hb5
        go_wp2_with (first
          | ((with_reducible refine wpg_val ?_ _ (exec_load 34 _ rfl _ rfl 34 8 _ hc8 5 Tryd.underlying34 i8a) ?_); exact rfl)
          | ((with_reducible refine wpg_val ?_ _ (exec_build0 34 rfl _ built8z) ?_); exact rfl)
          | ((with_reducible refine wpg_val ?_ _ (exec_eqT 34 _ _ _ rfl 8 _ _ rfl rfl true E0.out 5 Tryd.underlying34 Tryd.underlying5 i8 eqA8) ?_); exact rfl))
        go_ret
        exact ⟨rfl, hB9⟩
  have hLp : 0 < L := by omega
  obtain ⟨ad, rfl, had, hcell⟩ := HR2.out hLp
  have HC := hid hcell
  clear hcell hL0
  go_loopw [10, 11] (fun v i wr => ∃ m : Nat, m ≤ M ∧ OwnV wr w2.heap.size 5 v m (iv .u8 fun i => f (i % L)) ∧ i = .int .i64 m ∧ Below w2.heap.size w2 wr) (fun _ i _ => M - (intOf i).toNat)
  case atStart => exact ⟨0, by omega, OwnV.nil _ _ _ _, rfl, Below.refl _ _⟩
  case round =>
    obtain ⟨m, hm, ho, rfl, hB⟩ := hrel
    by_cases hlt : m < M
    · have hmL : m % L < L := Nat.mod_lt _ hLp
      have hCm : Hid (wr.cell? (ad.add (m % L)) = some (.int .u8 ((f (m % L) : Nat) : Int))) := hid ((hB.cell (by rw [add_block]; exact had)).trans (HC.out _ hmL))
      go_wp2_with (first
        | (with_reducible refine wpl_sl1 rfl 22 _ _ rfl ad L c rfl .i64 _ rfl (m % L) (by simp) 5 Tryd.underlying22 hmL i8 ?_)
        | (with_reducible refine wpl_ld rfl 5 _ rfl _ rfl .u8 Tryd.underlying5 _ hCm.out ?_)
        | (at_builtin; refine wpl_appN rfl _ _ 22 rfl w2.heap.size 5 (.int .u8 0) 1 Tryd.underlying22 infoB rfl _ m _ rfl ho 1 (fun _ => .int .u8 ((f (m % L) : Nat) : Int)) _ (row1v _ _ rfl) (fun _ => rfl) rfl (by omega) (by omega) hB.size ?_))
      intro v' w3 ho1 hB1 _
      have ho2 : OwnV w3 w2.heap.size 5 v' (m + 1) (iv .u8 fun i => f (i % L)) := ho1.ext (fun i hi => by
        unfold catV
        by_cases h : i < m
        · rw [if_pos h]
        · rw [if_neg h]; obtain rfl : i = m := by omega
          rfl)
      have hB3 := hB.trans hB1
      clear ho1 hB1 hB ho
      go_wp2_with fail
      exact ⟨⟨m + 1, by omega, ho2, val_int (by omega), hB3⟩, by simp [intOf]; omega⟩
    · obtain ⟨Ax, cx, hv, hcx, hRx⟩ : ∃ Ax cx, u10 = .slice Ax M cx ∧ M ≤ cx ∧ Reads wr wr.heap.size Ax M (fun i => f (i % L)) := by
        have hmM : m = M := by omega
        rw [hmM] at ho
        by_cases hM0 : M = 0
        · rcases ho.form with ⟨h1, _⟩ | ⟨g, cap, cur, h1, _, _, h2, _, _⟩
          · exact ⟨none, 0, by rw [h1, hM0], by omega, fun h => by omega⟩
          · exact ⟨_, cap, h1, h2, fun h => by omega⟩
        · obtain ⟨A', c', h1, h2, h3⟩ := ho.lst (by omega)
          exact ⟨A', c', h1, h2, Lst_reads h3⟩
      subst hv
      have Hfx : Hid (∀ i, i < M → (fun i => f (i % L)) i < 256) := hid (fun i _ => Hf.out _ (Nat.mod_lt _ hLp))
      generalize hge : (fun i => f (i % L)) = fx at *
      clear hge ho
      have hbW := Hb1.out.below hB Hb1.out.lt
      have hBW := HB2.out.trans (hB.mono HB2.out.size)
      by_cases hK : IsTKey M
      · have HK := hid hK
        clear hK
        have hb3 := hbW
        go_wp2_with (with_reducible refine wpl_load rfl 34 _ rfl _ rfl 34 _ hb3 8 5 Tryd.underlying34 (i8a' _) ?_)
        refine (triple_any Ax M cx HK.out hcx fx b back _ Hfx.out Hb.out hRx).mono ?_
        rintro e w5 ⟨rfl, hB5⟩
        have hb5 := (hb3.below hB5 hb3.lt).alloc (.cells (row 8 (b8 (tdes M fx b back))) 34)
        have hR5 := ((hRx.below hB5).more hB5.size).below ((Below.refl _ w5).alloc (Nat.le_refl _) (.cells (row 8 (b8 (tdes M fx b back))) 34))
        have hR6 : Reads (w5.alloc (.cells (row 8 (b8 (tdes M fx b back))) 34)) (w5.alloc (.cells (row 8 (b8 (tdes M fx b back))) 34)).heap.size Ax M fx := hR5.more (by simp)
        have hc5 := Blk.fresh w5 34 (row 8 (b8 (tdes M fx b back)))
        have hB6 := hBW.trans (hB5.mono hBW.size)
        have hB7 := hB6.alloc hB6.size (.cells (row 8 (b8 (tdes M fx b back))) 34)
        clear hB5 hB6 hR5 hb3 hbW
        go_wp2_with (first
          | (with_reducible refine wpl_alloc rfl 34 rfl _ z8 ?_)
          | (with_reducible refine wpl_store_new rfl 34 _ _ rfl _ _ 8 _ rfl rfl 34 i8a (row_size _ _) ?_))
        generalize w5.alloc (.cells (row 8 (b8 (tdes M fx b back))) 34) = w6 at *
        generalize w5.heap.size = gc at *
        refine (rtriple_any Ax M cx HK.out hcx _ _ fx b back Hfx.out Hb.out _ hR6 hb5.reads).mono ?_
        rintro e w7 ⟨A7, c7, rfl, hc7, hL7, hB8⟩
        have hc7b := hc5.below hB8 hc5.lt
        have hB9 := hB7.trans (hB8.mono hB7.size)
        have hRL := Lst_reads hL7
        clear hb5 hc5 hB7 hB8 hR6 hL7
        go_wp2_with (go_at_call 20; refine (same_yes _ _ 8 8 c7 _ _ (by omega) hc7b.reads hRL).mono ?_; rintro e w9 ⟨rfl, hBz⟩)
        go_ret
        exact ⟨rfl, hB9.trans (hBz.mono hB9.size)⟩
      · have hne : M ≠ 8 ∧ M ≠ 16 ∧ M ≠ 24 := ⟨fun h => hK (.inl h), fun h => hK (.inr (.inl h)), fun h => hK (.inr (.inr h))⟩
        have Hne := hid hne
        clear hne hK
        have hb3 := hbW
        go_wp2_with (with_reducible refine wpl_load rfl 34 _ rfl _ rfl 34 _ hb3 8 5 Tryd.underlying34 (i8a' _) ?_)
        refine (triple_bad Ax M cx Hne.out b back _).mono ?_
        rintro e w5 ⟨rfl, hB5⟩
        have hb5 := (hb3.below hB5 hb3.lt).alloc (.cells (row 8 (b8 fun _ => 0)) 34)
        have hc5 := Blk.fresh w5 34 (row 8 (b8 fun _ => 0))
        have hB6 := hBW.trans (hB5.mono hBW.size)
        have hB7 := hB6.alloc hB6.size (.cells (row 8 (b8 fun _ => 0)) 34)
        clear hB5 hB6 hb3 hbW
        go_wp2_with (first
          | (with_reducible refine wpl_alloc rfl 34 rfl _ z8 ?_)
          | (with_reducible refine wpl_store_new rfl 34 _ _ rfl _ _ 8 _ rfl rfl 34 i8a (row_size _ _) ?_))
        generalize w5.alloc (.cells (row 8 (b8 fun _ => 0)) 34) = w6 at *
        generalize w5.heap.size = gc at *
        refine (rtriple_bad Ax M cx Hne.out _ _ back _).mono ?_
        rintro e w' ⟨rfl, rfl⟩
        have hLd := hid (Hg.out.below hB7)
        have E0 : Hid (eqB 8 (fun _ => 0) (fun _ => 0) = true) := hid (eqB_true fun _ _ => rfl)
        go_wp2_with fail
        refine (As.code_hit 2 _ hLd.out).mono ?_
        rintro e w8 ⟨rfl, hB8⟩
        have hc8 := hc5.below hB8 hc5.lt
        have hB9 := hB7.trans (hB8.mono hB7.size)
        clear hc5 hB8 hB7 hb5
        go_wp2_with (first
          | ((with_reducible refine wpg_val ?_ _ (exec_load 34 _ rfl _ rfl 34 8 _ hc8 5 Tryd.underlying34 i8a) ?_); exact rfl)
          | ((with_reducible refine wpg_val ?_ _ (exec_build0 34 rfl _ built8z) ?_); exact rfl)
          | ((with_reducible refine wpg_val ?_ _ (exec_eqT 34 _ _ _ rfl 8 _ _ rfl rfl true E0.out 5 Tryd.underlying34 Tryd.underlying5 i8 eqA8) ?_); exact rfl))
        go_ret
        exact ⟨rfl, hB9⟩
end Go.Proofs.YtknjboflkclglaaDoor.Des
