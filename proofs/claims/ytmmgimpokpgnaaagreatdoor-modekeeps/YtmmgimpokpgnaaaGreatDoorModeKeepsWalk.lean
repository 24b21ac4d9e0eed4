/-
  ModeKeeps returns true: its walk.
-/
import Derived.Test.YtmmgimpokpgnaaaGreatDoorAwake06
namespace Go.Proofs.YtmmgimpokpgnaaaGreatDoor.Md.Keeps
open Mem Bk As Go.ChangeShapes Go.WideShapes Go.ChangeAt Go.RowKit
/-- n bytes from the head of block g -/
def Byt (W : World) (g n : Nat) : Prop := ∃ cur, Blk W g 5 cur ∧ ∀ i, i < n → ∃ v : Nat, v < 256 ∧ cur[i]? = some (.int .u8 (v : Int))
theorem Byt.get {W : World} {g n i : Nat} (h : Byt W g n) (hi : i < n) : ∃ v : Nat, v < 256 ∧ W.cell? ⟨g, i, none⟩ = some (.int .u8 (v : Int)) ∧ W.frozen? ⟨g, i, none⟩ = false := by
  obtain ⟨cur, hb, hc⟩ := h
  obtain ⟨v, hv, e⟩ := hc i hi
  exact ⟨v, hv, (hb.cell i).trans e, hb.free i⟩
theorem Byt.put {W : World} {g n i v : Nat} (h : Byt W g n) (hv : v < 256) : Byt (W.setCell ⟨g, i, none⟩ (.int .u8 (v : Int))) g n := by
  obtain ⟨cur, hb, hc⟩ := h
  refine ⟨_, hb.setCell i _, fun j hj => ?_⟩
  obtain ⟨u, hu, e⟩ := hc j hj
  by_cases hij : i = j
  · subst hij
    have hl : i < cur.size := (Array.getElem?_eq_some_iff.1 e).1
    exact ⟨v, hv, by simp [hl]⟩
  · exact ⟨u, hu, by rw [Array.getElem?_setIfInBounds_ne hij]; exact e⟩
theorem Byt.other {W : World} {g n : Nat} (h : Byt W g n) (a : Addr) (u : Value) (hne : g ≠ a.block) : Byt (W.setCell a u) g n := by
  obtain ⟨cur, hb, hc⟩ := h
  exact ⟨cur, hb.other a u hne, hc⟩
theorem Byt.below {W W' : World} {g n B : Nat} (h : Byt W g n) (hB : Below B W W') (hg : g < B) : Byt W' g n := by
  obtain ⟨cur, hb, hc⟩ := h
  exact ⟨cur, hb.below hB hg, hc⟩
theorem Byt.lt {W : World} {g n : Nat} (h : Byt W g n) : g < W.heap.size := by
  obtain ⟨cur, hb, -⟩ := h
  exact hb.lt
theorem byt_own {W : World} {base n : Nat} {v : Value} {f : Nat → Nat} (h : Mem.Own W base 5 1 v n f) (hn : 0 < n) (hf : ∀ i, i < n → f i < 256) : ∃ g c, v = .slice (some ⟨g, 0, none⟩) n c ∧ base ≤ g ∧ Byt W g n := by
  rcases h.form with ⟨_, h0⟩ | ⟨g, c, cur, hv, hb, _, _, hblk, _, hc⟩
  · omega
  · exact ⟨g, c, hv, hb, cur, hblk, fun i hi => ⟨f i, hf i hi, hc i (by omega)⟩⟩
theorem byt_row {W : World} {g n : Nat} {f : Nat → Nat} (h : Blk W g 5 (row n (b8 f))) (hf : ∀ i, i < n → f i < 256) : Byt W g n := ⟨_, h, fun i hi => ⟨f i, hf i hi, row_get n _ i hi⟩⟩
theorem cutAll (g : Nat) (w : World) : (Instr.sliceAt 37 (.pointer (some ⟨g, 0, none⟩)) none none none).run Tryz.prog w = .ok (.slice (some ⟨g, 0, none⟩) 16 16) w := by kernel_rfl
theorem eqA16 : Tryz.prog.eqGuardType Tryz.prog.depth 37 = false := by kernel_rfl
theorem exec_eqT16 {P : Program} {o : Oper} {a : Act} {w : World} (ty : TypeId) (x y : Operand) (rt : TypeId) (ho : o.op = .binOp .eql ty x y rt) (n : Nat) (f g : Nat → Nat) (hx : a.eval x = .agg (row n (b8 f))) (hy : a.eval y = .agg (row n (b8 g))) (r : Bool) (h : eqB n f g = r) (e : TypeId)
    (ht : P.underlying ty = some (.array n e)) (he : P.underlying e = some (.int .u8)) (hs : (P.info? e).map (·.size) = some 1) (hm : P.eqGuardType P.depth ty = false) :
    (execOp a.eval o).run P w = .ok (.value (.bool r)) w := by
  subst h; exact exec_eq ty x y rt ho n f g hx hy e ht he hs hm
theorem Byt.any {W : World} {g g' n i v : Nat} (h : Byt W g n) (hv : v < 256) : Byt (W.setCell ⟨g', i, none⟩ (.int .u8 (v : Int))) g n := by
  by_cases hg : g = g'
  · subst hg; exact h.put hv
  · exact h.other _ _ hg
section
variable {P : Program} {o : Oper} {a : Act} {w : World}
theorem exec_quoK (t : TypeId) (x y : Operand) (rt : TypeId) (ho : o.op = .binOp .quo t x y rt) (p q r : Int) (hx : a.eval x = .int .i64 p) (hy : a.eval y = .int .i64 q) (h : 0 ≤ p ∧ 0 < q ∧ p / q = r ∧ 0 ≤ r ∧ r ≤ 100000) : (execOp a.eval o).run P w = .ok (.value (.int .i64 r)) w := by
  obtain ⟨hp, hq, hr, hr0, hr1⟩ := h
  have hm : p.tdiv q = r := by rw [Int.tdiv_eq_ediv_of_nonneg hp, hr]
  have hw : IntKind.i64.wrap r = r := wrap_i64 r r rfl (by clear hm hr; omega) (by clear hm hr; omega)
  have hq0 : ¬ q = 0 := by clear hm hr; omega
  unfold execOp
  simp [ho, hx, hy, eqGuard, binOp, Op.intDiv, hm, hq0, hw]
theorem exec_mulK (t : TypeId) (x y : Operand) (rt : TypeId) (ho : o.op = .binOp .mul t x y rt) (p q r : Int) (hx : a.eval x = .int .i64 p) (hy : a.eval y = .int .i64 q) (h : p * q = r ∧ 0 ≤ r ∧ r ≤ 100000) : (execOp a.eval o).run P w = .ok (.value (.int .i64 r)) w :=
  exec_arith .mul (.inr (.inr rfl)) t x y rt ho p q hx hy r h.1 (by have := h.2; omega) (by have := h.2; omega)
end
set_option maxRecDepth 100000 in
set_option maxHeartbeats 1000000 in
theorem keeps_true (A : Option Addr) (L c : Nat) (key x : Nat → Nat) (A2 : Option Addr) (L2 c2 : Nat) (t : Nat → Nat) (w : World) (hg : Laid w) (hR : Reads w w.heap.size A L key) (hk : ∀ i, i < L → key i < 256) (hx : ∀ i, i < 16 → x i < 256) (hR2 : Reads w w.heap.size A2 L2 t) (ht : ∀ i, i < L2 → t i < 256) (hA2 : A2 = none → L2 = 0 ∧ c2 = 0) (hC2 : L2 ≤ c2) :
    Calls Tryz.prog 5 #[.slice A L c, .agg (row 16 (b8 x)), .slice A2 L2 c2] w fun e w' => e = .returned (.bool true) ∧ Below w.heap.size w w' := by
  have hB0 : Below w.heap.size w (w.alloc (.cells (row 16 (b8 x)) 37)) := (Below.refl _ _).alloc (Nat.le_refl _) _
  have HX := hid (Blk.fresh w 37 (row 16 (b8 x)))
  have Hg := hid (hg.below hB0)
  have HR := hid ((hR.below hB0).more hB0.size)
  have HR2 := hid ((hR2.below hB0).more hB0.size)
  have Hk := hid hk
  have Ht := hid ht
  have HA2 := hid hA2
  have Hx := hid hx
  have HB0 := hid hB0
  clear hg hR hR2 hk ht hA2 hx hB0
  by_cases hL : L ≤ 100 ∧ L2 ≤ 200
  · obtain ⟨hL1, hL2⟩ := hL
    have hL1I : ¬ 100 < (L : Int) := by omega
    have hL2I : ¬ 200 < (L2 : Int) := by omega
    go_enter Tryz.func5, Tryz.ntmps5
    go_wp2_with fail
    generalize w.alloc (.cells (row 16 (b8 x)) 37) = w0 at *
    refine (awake6_any _ Hg.out).mono ?_
    rintro e w1 ⟨rfl, hB1⟩
    have HR1 := hid ((HR.out.below hB1).more hB1.size)
    have HR21 := hid ((HR2.out.below hB1).more hB1.size)
    have HX1 := hid (HX.out.below hB1 HX.out.lt)
    have HB1 := hid (HB0.out.trans (hB1.mono HB0.out.size))
    clear HR HR2 HX HB0 hB1
    go_wp2_with fail
    refine (right6_any _ 1 rfl (.inl rfl) A L c key _ (by omega) HR1.out).mono ?_
    rintro e w3 ⟨v, rfl, ho, hB3⟩
    obtain ⟨A3, c3, rfl, hc3, hA3, -⟩ := ho.slice'
    have HX3 := hid (HX1.out.below hB3 HX1.out.lt)
    have HR23 := hid ((HR21.out.below hB3).more hB3.size)
    have HB3 := hid (HB1.out.trans (hB3.mono HB1.out.size))
    have Ho := hid ho
    clear HR1 HR21 HX1 HB1 hB3 ho
    have hfit := rn_fits (k := 1) (.inl rfl)
    have hrl := (rn_le 1).1
    go_wp2_with fail
    refine (cipher6_any 1 A3 (rn 1) c3 (rk L key) none 0 0 (fun _ => 0) _ (by omega) hA3 (fun i _ => rk_lt Hk.out i) Ho.out.reads hfit (by omega) (fun _ => ⟨rfl, rfl⟩) (fun i hi => by omega) (fun h => absurd h (by omega))).mono ?_
    rintro e w4 ⟨p, gc, base, rfl, -, -, -, -, hci, -, -, hB4⟩
    have HX4 := hid (HX3.out.below hB4 HX3.out.lt)
    have HR4 := hid ((HR23.out.below hB4).more hB4.size)
    have Hci4 := hid hci
    have HB4 := hid (HB3.out.trans (hB4.mono HB3.out.size))
    clear HX3 HB3 HR23 hB4 hci Ho hA3 hc3
    have hcut := cutAll
    obtain ⟨N, hN⟩ : ∃ N, N = L2 / 16 := ⟨_, rfl⟩
    obtain ⟨M, hM⟩ : ∃ M, M = N * 16 := ⟨_, rfl⟩
    have hML : M ≤ L2 := by omega
    have hMc : M ≤ c2 := by omega
    have hMs : M ≤ 100000 := by omega
    have hM1 : M ≤ 1000000 := by omega
    have HMN : Hid (M = N * sz 1) := hid hM
    have HF1 : Hid ((0 : Int) ≤ (L2 : Int) ∧ (0 : Int) < 16 ∧ (L2 : Int) / 16 = (N : Int) ∧ (0 : Int) ≤ (N : Int) ∧ (N : Int) ≤ 100000) := hid (by omega)
    have HF2 : Hid ((N : Int) * 16 = (M : Int) ∧ (0 : Int) ≤ (M : Int) ∧ (M : Int) ≤ 100000) := hid (by omega)
    have hM0 : (0 : Int) ≤ (M : Int) ∧ (M : Int) ≤ (c2 : Int) := by omega
    clear hN hM
    have HAM : Hid (A2 = none → M = 0) := hid fun h => by have := (HA2.out h).1; omega
    have HAM' : Hid (A2 = none → M = 0 ∧ c2 = 0) := hid fun h => ⟨by have := (HA2.out h).1; omega, (HA2.out h).2⟩
    have HtM : Hid (∀ i, i < M → t i < 256) := hid fun i hi => Ht.out i (by omega)
    have HRM := hid (HR4.out.less hML)
    have Hkk : Hid (∀ i, i < rn 1 → rk L key i < 256) := hid fun i _ => rk_lt Hk.out i
    have Hx16 : Hid (∀ i, i < sz 1 → x i < 256) := hid Hx.out
    clear HR4 Ht HA2 Hx
    -- was
    have hBe := (Below.refl w4.heap.size w4).alloc (Nat.le_refl _) (.cells #[] 5)
    have He := hid (Mem.Own.empty w4 w4.heap.size 5 (fun _ => 0) (Nat.le_refl _))
    have HRe := hid ((HRM.out.below hBe).more hBe.size)
    have HBe := hid hBe
    clear hBe
    go_wp2_with (first
      | (with_reducible refine wpl_val rfl _ (exec_quoK _ _ _ _ rfl _ _ _ rfl rfl HF1.out) ?_)
      | (with_reducible refine wpl_val rfl _ (exec_mulK _ _ _ _ rfl _ _ _ rfl rfl HF2.out) ?_)
      | (at_builtin; (refine wpl_app_gen rfl _ _ 22 rfl w4.heap.size 5 (.int .u8 0) Tryz.underlying22 info_u8 rfl _ 0 _ rfl He.out A2 M c2 _ _ HRe.out HAM'.out rfl (by omega) (by simp) ?_)))
    intro v5 w5 ho5 hB5
    try rw [Nat.zero_add] at ho5
    have hB45 := HBe.out.trans hB5
    obtain ⟨A5, c5, rfl, hc5, -, -⟩ := ho5.slice'
    have Hwas5 : Hid (Reads w5 w5.heap.size A5 M t) := hid (ho5.reads.ext (fun i hi => by unfold cat; simp))
    have HX5 := hid (HX4.out.below hB45 HX4.out.lt)
    have HR5 := hid ((HRM.out.below hB45).more hB45.size)
    have Hc5 := hid (Hci4.out.keep hB45)
    have HB5 := hid (HB4.out.trans (hB45.mono HB4.out.size))
    clear hB45 ho5 hB5 HBe HRe He HX4 HRM Hci4 HB4 HF1 HF2
    -- from
    have hBf := (Below.refl w5.heap.size w5).alloc (Nat.le_refl _) (.cells (row 16 (b8 x)) 37)
    have HX6 := hid (HX5.out.alloc (.cells (row 16 (b8 x)) 37))
    have HF6 := hid (Blk.fresh w5 37 (row 16 (b8 x)))
    have HR6 := hid ((HR5.out.below hBf).more hBf.size)
    have Hwas6 := hid ((Hwas5.out.below hBf).more hBf.size)
    have Hc6 := hid (Hc5.out.keep hBf)
    have HB6 := hid (HB5.out.trans (hBf.mono HB5.out.size))
    clear hBf HR5 Hwas5 Hc5 HB5
    go_wp2_with (first
      | (with_reducible refine wpl_load rfl 37 _ rfl _ rfl 37 _ HX5.out 16 5 Tryz.underlying37 (i16' _) ?_)
      | (with_reducible refine wpl_alloc rfl 37 rfl _ z16 ?_)
      | (with_reducible refine wpl_store_new rfl 37 _ _ rfl w5 _ 16 _ rfl rfl 37 i16 (row_size _ _) ?_))
    clear HX5
    generalize w5.alloc (.cells (row 16 (b8 x)) 37) = w6 at *
    generalize w5.heap.size = gf at *
    refine (chained_any w6 p 1 gc _ (rn 1) (rk L key) ⟨w.heap.size, 0, none⟩ 16 x A2 N M c2 false t (by omega) Hc6.out HMN.out hMs hMc HAM.out HtM.out HR6.out HX6.out.lt (fun i hi => by rw [add_zero_off]; exact HX6.out.val i hi) Hx16.out).mono ?_
    rintro e w7 ⟨v7, rfl, ho7, hB7⟩
    obtain ⟨A7, c7, rfl, hc7, -, -⟩ := ho7.slice'
    have Hb7 : Hid (0 < M → ∃ g, A7 = some ⟨g, 0, none⟩ ∧ w6.heap.size ≤ g ∧ Byt w7 g M) := hid fun h => by
      obtain ⟨g, c', h1, h2, h3⟩ := byt_own ho7 h (by rw [HMN.out]; exact chain_lt hfit (by omega) Hkk.out Hx16.out (by rw [← HMN.out]; exact HtM.out))
      injection h1 with h1
      exact ⟨g, h1, h2, h3⟩
    have HR7 := hid ((HR6.out.below hB7).more hB7.size)
    have Hc7 := hid (Hc6.out.keep hB7)
    have HB7 := hid hB7
    clear ho7 hB7
    go_wp2_with fail
    refine (alone_any w7 p 1 gc _ (rn 1) (rk L key) A2 N M c2 true t (by omega) Hc7.out HMN.out hMs hMc HAM.out HtM.out HR7.out).mono ?_
    rintro e w8 ⟨v8, rfl, ho8, hB8⟩
    obtain ⟨A8, c8, rfl, hc8, -, -⟩ := ho8.slice'
    have Hb8 : Hid (0 < M → ∃ g, A8 = some ⟨g, 0, none⟩ ∧ w7.heap.size ≤ g ∧ Byt w8 g M) := hid fun h => by
      obtain ⟨g, c', h1, h2, h3⟩ := byt_own ho8 h (by rw [HMN.out]; exact alone_lt hfit (by omega) Hkk.out (by rw [← HMN.out]; exact HtM.out))
      injection h1 with h1
      exact ⟨g, h1, h2, h3⟩
    have HR8 := hid ((HR7.out.below hB8).more hB8.size)
    have HB8 := hid hB8
    clear ho8 hB8 Hc7 HR7
    go_wp2_with fail
    refine (Md.xor_any A2 A2 M c2 c2 t t w8 hMs HtM.out HtM.out HR8.out HR8.out).mono ?_
    rintro e w9 ⟨rfl, hb9, hB9⟩
    have hs6 := HB7.out.size
    have hs7 := HB8.out.size
    have HI : Hid (0 < M → ∃ gx gy, A7 = some ⟨gx, 0, none⟩ ∧ A8 = some ⟨gy, 0, none⟩ ∧ w6.heap.size ≤ gx ∧ w6.heap.size ≤ gy ∧ Byt w9 gx M ∧ Byt w9 gy M ∧ Byt w9 w8.heap.size M) := hid fun h => by
      obtain ⟨gx, h1, h2, h3⟩ := Hb7.out h
      obtain ⟨gy, h4, h5, h6⟩ := Hb8.out h
      exact ⟨gx, gy, h1, h4, h2, by omega, (h3.below HB8.out h3.lt).below hB9 (by have := h3.lt; omega), h6.below hB9 h6.lt, byt_row hb9 (fun i hi => xr_lt (HtM.out i hi) (HtM.out i hi))⟩
    have HB69 := hid ((HB7.out.trans (HB8.out.mono hs6)).trans (hB9.mono (by omega)))
    have hgz : w6.heap.size ≤ w8.heap.size := by omega
    clear Hb7 Hb8 hb9 hB9 HB7 HB8 HR8
    generalize w8.heap.size = gz at *
    go_wp2_with fail
    generalize Value.bool (decide (100 < (L : Int)) || decide (200 < (L2 : Int))) = vb0 at *
    generalize Value.bool (decide (100 < (L : Int))) = vb1 at *
    generalize Value.bool (decide (200 < (L2 : Int))) = vb2 at *
    go_loopw [18] (fun y wr => ∃ i : Nat, i ≤ M ∧ y = .int .i64 (i : Int) ∧ Hid (0 < M → ∃ gx gy, A7 = some ⟨gx, 0, none⟩ ∧ A8 = some ⟨gy, 0, none⟩ ∧ w6.heap.size ≤ gx ∧ w6.heap.size ≤ gy ∧ Byt wr gx M ∧ Byt wr gy M ∧ Byt wr gz M) ∧ Below w6.heap.size w6 wr) (fun y _ => M - (intOf y).toNat)
    case atStart => exact ⟨0, by omega, rfl, HI, HB69.out⟩
    case round =>
      clear HI HB69
      obtain ⟨i, hi, rfl, HI, hB⟩ := hrel
      by_cases hlt : i < M
      · obtain ⟨gx, gy, rfl, rfl, hgx, hgy, bx, by', bz⟩ := HI.out (by omega)
        obtain ⟨vx, hvx, hcx, hfx⟩ := bx.get hlt
        have e1 : bits .xor .u8 (vx : Int) 255 = ((vx ^^^ 255 : Nat) : Int) := u8_xor_nat vx 255 hvx (by omega)
        have b1 := Gf.xor_lt hvx (show 255 < 256 by omega)
        obtain ⟨vy, hvy, hcy, hfy⟩ := (by'.any (g' := gx) (i := i) b1).get hlt
        have e2 : bits .xor .u8 (vy : Int) 255 = ((vy ^^^ 255 : Nat) : Int) := u8_xor_nat vy 255 hvy (by omega)
        have b2 := Gf.xor_lt hvy (show 255 < 256 by omega)
        obtain ⟨vz, hvz, hcz, hfz⟩ := ((bz.any (g' := gx) (i := i) b1).any (g' := gy) (i := i) b2).get hlt
        have e3 : bits .xor .u8 (vz : Int) 255 = ((vz ^^^ 255 : Nat) : Int) := u8_xor_nat vz 255 hvz (by omega)
        have b3 := Gf.xor_lt hvz (show 255 < 256 by omega)
        have Hbx := hid (((bx.any (g' := gx) (i := i) b1).any (g' := gy) (i := i) b2).any (g' := gz) (i := i) b3)
        have Hby := hid (((by'.any (g' := gx) (i := i) b1).any (g' := gy) (i := i) b2).any (g' := gz) (i := i) b3)
        have Hbz := hid (((bz.any (g' := gx) (i := i) b1).any (g' := gy) (i := i) b2).any (g' := gz) (i := i) b3)
        have HB := hid (((hB.setCell (p := ⟨gx, i, none⟩) hgx (.int .u8 ((vx ^^^ 255 : Nat) : Int))).setCell (p := ⟨gy, i, none⟩) hgy (.int .u8 ((vy ^^^ 255 : Nat) : Int))).setCell (p := ⟨gz, i, none⟩) hgz (.int .u8 ((vz ^^^ 255 : Nat) : Int)))
        clear bx by' bz hB HI
        go_wp2_with (first
          | (with_reducible refine wpl_slb rfl 22 _ _ rfl gx M c7 rfl .i64 _ rfl i rfl 5 Tryz.underlying22 hlt i8q ?_)
          | (with_reducible refine wpl_slb rfl 22 _ _ rfl gy M c8 rfl .i64 _ rfl i rfl 5 Tryz.underlying22 hlt i8q ?_)
          | (with_reducible refine wpl_slb rfl 22 _ _ rfl gz M M rfl .i64 _ rfl i rfl 5 Tryz.underlying22 hlt i8q ?_)
          | (with_reducible refine wpl_ld rfl 5 _ rfl _ rfl .u8 Tryz.underlying5 _ hcx ?_)
          | (with_reducible refine wpl_st rfl 5 _ _ rfl _ rfl .u8 _ rfl i8q _ hcx hfx ?_)
          | (with_reducible refine wpl_ld rfl 5 _ rfl _ rfl .u8 Tryz.underlying5 _ hcy ?_)
          | (with_reducible refine wpl_st rfl 5 _ _ rfl _ rfl .u8 _ rfl i8q _ hcy hfy ?_)
          | (with_reducible refine wpl_ld rfl 5 _ rfl _ rfl .u8 Tryz.underlying5 _ hcz ?_)
          | (with_reducible refine wpl_st rfl 5 _ _ rfl _ rfl .u8 _ rfl i8q _ hcz hfz ?_))
        go_round
        case rel =>
          try rw [e1]
          try rw [e2]
          try rw [e3]
          exact ⟨i + 1, by omega, val_int (by omega), hid (fun _ => ⟨gx, gy, rfl, rfl, hgx, hgy, Hbx.out, Hby.out, Hbz.out⟩), HB.out⟩
        case measure => simp [intOf]; omega
      · have hltI : ¬ (i : Int) < (M : Int) := by omega
        have HXe := hid (HX6.out.below hB HX6.out.lt)
        have HFe := hid (HF6.out.below hB HF6.out.lt)
        have HRe := hid ((HR6.out.below hB).more hB.size)
        have Hwe := hid ((Hwas6.out.below hB).more hB.size)
        have HBe := hid (HB6.out.trans (hB.mono HB6.out.size))
        clear hB HI HX6 HF6 HR6 Hwas6 HB6
        go_wp2_with fail
        refine (same_any A2 A5 M c2 c5 t t _ hMs HRe.out Hwe.out).mono ?_
        rintro e wE ⟨rfl, hBE⟩
        rw [eqB_true (fun _ _ => rfl)]
        have HXE := hid (HXe.out.below hBE HXe.out.lt)
        have HFE := hid (HFe.out.below hBE HFe.out.lt)
        have HBE := hid (HBe.out.trans (hBE.mono HBe.out.size))
        have HEq : Hid (eqB 16 x x = true) := hid (eqB_true (fun _ _ => rfl))
        clear hBE HXe HFe HBe HRe Hwe
        go_wp2_with (first
          | ((with_reducible refine wpg_val ?_ _ (exec_load 37 _ rfl _ rfl 37 16 _ HXE.out 5 Tryz.underlying37 i16) ?_); exact rfl)
          | ((with_reducible refine wpg_val ?_ _ (exec_load 37 _ rfl _ rfl 37 16 _ HFE.out 5 Tryz.underlying37 i16) ?_); exact rfl)
          | ((with_reducible refine wpg_val ?_ _ (exec_eqT16 37 _ _ _ rfl 16 _ _ rfl rfl true HEq.out 5 Tryz.underlying37 Tryz.underlying5 i8q eqA16) ?_); exact rfl))
        go_ret
        exact ⟨rfl, HBE.out⟩
  · have hor : 100 < L ∨ (L ≤ 100 ∧ 200 < L2) := by omega
    clear hC2 HR HR2 HX HA2 Hx Hk Ht
    rcases hor with h1 | ⟨h1, h2⟩
    · have h1I : 100 < (L : Int) := by omega
      go_enter Tryz.func5, Tryz.ntmps5
      go_wp2_with fail
      generalize w.alloc (.cells (row 16 (b8 x)) 37) = w0 at *
      refine (awake6_any _ Hg.out).mono ?_
      rintro e w1 ⟨rfl, hB1⟩
      go_wp2_with fail
      refine (awake6_any _ (Hg.out.below hB1)).mono ?_
      rintro e w2 ⟨rfl, hB2⟩
      go_wp2_with fail
      go_ret
      exact ⟨rfl, HB0.out.trans ((hB1.trans (hB2.mono hB1.size)).mono HB0.out.size)⟩
    · have h1I : ¬ 100 < (L : Int) := by omega
      have h2I : 200 < (L2 : Int) := by omega
      go_enter Tryz.func5, Tryz.ntmps5
      go_wp2_with fail
      generalize w.alloc (.cells (row 16 (b8 x)) 37) = w0 at *
      refine (awake6_any _ Hg.out).mono ?_
      rintro e w1 ⟨rfl, hB1⟩
      go_wp2_with fail
      refine (awake6_any _ (Hg.out.below hB1)).mono ?_
      rintro e w2 ⟨rfl, hB2⟩
      go_wp2_with fail
      go_ret
      exact ⟨rfl, HB0.out.trans ((hB1.trans (hB2.mono hB1.size)).mono HB0.out.size)⟩
end Go.Proofs.YtmmgimpokpgnaaaGreatDoor.Md.Keeps
