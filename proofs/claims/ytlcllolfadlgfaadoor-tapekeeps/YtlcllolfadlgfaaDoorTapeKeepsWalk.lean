/-
  TapeKeeps returns true: its walk.
-/
import Derived.Test.YtlcllolfadlgfaaDoorAwake04
import Derived.Test.YtlcllolfadlgfaaDoorSame
namespace Go.Proofs.YtlcllolfadlgfaaDoor.Law04
open Go.ChangeShapes Go.WideShapes Go.ChangeAt Go.RowKit Mem As
theorem Own.setOff {w : World} {base : Nat} {e : TypeId} {A : Option Addr} {n c : Nat} {f : Nat → Nat} (h : Own w base e 1 (.slice A n c) n f) (p : Addr) (hp : ∀ ad, A = some ad → ad.block ≠ p.block) (u : Value) : Own (w.setCell p u) base e 1 (.slice A n c) n f := by
  obtain ⟨h1, h2 | ⟨k, c', cur, hv, hbk, hblk, hr⟩⟩ := h
  · exact ⟨h1, .inl h2⟩
  · refine ⟨h1, .inr ⟨k, c', cur, hv, hbk, Blk.other hblk p u ?_, hr⟩⟩
    cases hv
    exact hp _ rfl
/-- bytes of a block g in [lo, hi) whose cells from i on are still f's -/
def Scr (lo hi : Nat) (A : Option Addr) (n : Nat) (f : Nat → Nat) (i : Nat) (w : World) : Prop :=
  0 < n → ∃ g cur, A = some ⟨g, 0, none⟩ ∧ lo ≤ g ∧ g < hi ∧ Blk w g 5 cur ∧ ∀ j, i ≤ j → j < n → cur[j]? = some (b8 f j)
theorem scr_of {w : World} {base : Nat} {A : Option Addr} {n c : Nat} {f : Nat → Nat} (h : Own w base 5 1 (.slice A n c) n f) : Scr base w.heap.size A n f 0 w := fun hn => by
  rcases h.form with ⟨h1, rfl⟩ | ⟨g, c', cur, hv, h1, h2, h3, h4, h5, h6⟩
  · omega
  · cases hv
    exact ⟨g, cur, rfl, h1, h2, h4, fun j _ hj => h6 j (by omega)⟩
theorem Scr.below {lo hi : Nat} {A : Option Addr} {n : Nat} {f : Nat → Nat} {i : Nat} {w w' : World} (h : Scr lo hi A n f i w) (hB : Below w.heap.size w w') : Scr lo hi A n f i w' := fun hn => by
  obtain ⟨g, cur, h1, h2, h3, h4, h5⟩ := h hn
  exact ⟨g, cur, h1, h2, h3, h4.below hB h4.lt, h5⟩
/-- two tapes of the same bytes, d1 and d2 of them drawn -/
structure TT (w wr : World) (B g1 g2 : Nat) (A1 A2 : Option Addr) (L c1 c2 d1 d2 : Nat) (f : Nat → Nat) : Prop where
  b1 : Blk wr g1 65 #[.slice A1 L c1, .int .i64 (d1 : Int)]
  b2 : Blk wr g2 65 #[.slice A2 L c2, .int .i64 (d2 : Int)]
  o1 : Own wr B 5 1 (.slice A1 L c1) L f
  o2 : Own wr B 5 1 (.slice A2 L c2) L f
  bel : Below w.heap.size w wr
section
variable {w wr w' : World} {B g1 g2 : Nat} {A1 A2 : Option Addr} {L c1 c2 d1 d2 : Nat} {f : Nat → Nat}
theorem TT.below (h : TT w wr B g1 g2 A1 A2 L c1 c2 d1 d2 f) (hB : Below wr.heap.size wr w') : TT w w' B g1 g2 A1 A2 L c1 c2 d1 d2 f :=
  ⟨h.b1.below hB h.b1.lt, h.b2.below hB h.b2.lt, h.o1.below hB (Nat.le_refl _), h.o2.below hB (Nat.le_refl _), h.bel.trans (hB.mono h.bel.size)⟩
theorem TT.set (h : TT w wr B g1 g2 A1 A2 L c1 c2 d1 d2 f) (p : Addr) (u : Value) (hw : w.heap.size ≤ p.block) (h1 : g1 ≠ p.block) (h2 : g2 ≠ p.block) (hA1 : ∀ ad, A1 = some ad → ad.block ≠ p.block) (hA2 : ∀ ad, A2 = some ad → ad.block ≠ p.block) : TT w (wr.setCell p u) B g1 g2 A1 A2 L c1 c2 d1 d2 f :=
  ⟨h.b1.other p u h1, h.b2.other p u h2, Own.setOff h.o1 p hA1 u, Own.setOff h.o2 p hA2 u, h.bel.setCell hw u⟩
theorem TT.take1 (h : TT w wr B g1 g2 A1 A2 L c1 c2 d1 d2 f) {d : Nat} (hw : w.heap.size ≤ g1) (hne : g2 ≠ g1) (hk : Kept g1 wr w') (hb : Blk w' g1 65 #[.slice A1 L c1, .int .i64 (d : Int)]) : TT w w' B g1 g2 A1 A2 L c1 c2 d d2 f :=
  ⟨hb, hk.blk h.b2 hne, hk.own h.b1 (by decide) h.o1, hk.own h.b1 (by decide) h.o2, h.bel.trans (hk.below hw h.bel.size)⟩
theorem TT.take2 (h : TT w wr B g1 g2 A1 A2 L c1 c2 d1 d2 f) {d : Nat} (hw : w.heap.size ≤ g2) (hne : g1 ≠ g2) (hk : Kept g2 wr w') (hb : Blk w' g2 65 #[.slice A2 L c2, .int .i64 (d : Int)]) : TT w w' B g1 g2 A1 A2 L c1 c2 d1 d f :=
  ⟨hk.blk h.b1 hne, hb, hk.own h.b2 (by decide) h.o1, hk.own h.b2 (by decide) h.o2, h.bel.trans (hk.below hw h.bel.size)⟩
end
theorem own_at {w : World} {base : Nat} {e : TypeId} {A : Option Addr} {n c : Nat} {f : Nat → Nat} (h : Own w base e 1 (.slice A n c) n f) : ∀ ad, A = some ad → base ≤ ad.block ∧ ad.block < w.heap.size := by
  intro ad hA
  rcases h.form with ⟨h1, _⟩ | ⟨g, c', cur, hv, h1, h2, _⟩
  · cases h1; cases hA
  · cases hv; cases hA; exact ⟨h1, h2⟩
set_option maxRecDepth 100000 in
set_option maxHeartbeats 2000000 in
theorem keeps_true (A : Option Addr) (L c : Nat) (f : Nat → Nat) (w : World) (hg : Laid w) (hR : Reads w w.heap.size A L f) (_hf : ∀ i, i < L → f i < 256) (hA : A = none → L = 0 ∧ c = 0) :
    Calls Tryd.prog 7 #[.slice A L c] w fun e w' => e = .returned (.bool true) ∧ Below w.heap.size w w' := by
  have Hg := hid hg
  have HR := hid hR
  have HA := hid hA
  clear hg hR hA _hf
  by_cases hL : L ≤ 1000
  · have hLI : (L : Int) ≤ 1000 := by omega
    go_enter Tryd.func7, Tryd.ntmps7
    go_wp2_with fail
    refine (awake_any _ Hg.out).mono ?_
    rintro e w1 ⟨rfl, hB1⟩
    have hBa : Below w1.heap.size w1 (w1.alloc (.cells #[] 5)) := (Below.refl _ _).alloc (Nat.le_refl _) _
    have HR1 := hid ((HR.out.below hB1).more hB1.size)
    have HR1a := hid (HR1.out.below hBa)
    have Ho1 := hid (Own.empty w1 w1.heap.size 5 f (Nat.le_refl _))
    go_wp2_with (at_builtin; refine wpl_app_gen rfl _ _ 22 rfl w1.heap.size 5 (.int .u8 0) Tryd.underlying22 info8t rfl _ 0 _ rfl Ho1.out A L c f _ HR1a.out HA.out rfl (by omega) (by simp) ?_)
    intro v0 w2 ho0 hB12a
    have hB12 := hBa.trans hB12a
    have hB02 : Below w.heap.size w w2 := hB1.trans (hB12.mono hB1.size)
    have ho0' : Own w2 w1.heap.size 5 1 v0 L f := ho0.ext (fun i _ => by unfold cat; simp)
    obtain ⟨A0, c0, rfl, hc0, hA0, -⟩ := ho0'.slice'
    have hS0 := hid (scr_of ho0')
    have HA0 := hid hA0
    have HR0 := hid ho0'.reads
    have HR2 := hid ((HR.out.below hB02).more hB02.size)
    have hw1 := hB1.size
    clear ho0 ho0' hA0 hB12a hBa HR1 HR1a Ho1
    go_wp2_with fail
    refine (new_ok A0 L c0 f _ (by omega) HA0.out HR0.out).mono ?_
    rintro e w3 ⟨v, g1, rfl, ho1, hb1, hgs1, hB23⟩
    obtain ⟨A1, c1, rfl, hc1, -, -⟩ := ho1.slice'
    have hB03 : Below w.heap.size w w3 := hB02.trans (hB23.mono hB02.size)
    have HR3 := hid ((HR2.out.below hB23).more hB23.size)
    have Ho1 := hid ho1
    have Hb1 := hid hb1
    clear ho1 hb1 HR0 HR2
    go_wp2_with fail
    refine (new_ok A L c f _ (by omega) HA.out HR3.out).mono ?_
    rintro e w4 ⟨v, g2, rfl, ho2, hb2, hgs2, hB34⟩
    obtain ⟨A2, c2, rfl, hc2, -, -⟩ := ho2.slice'
    have hB24 : Below w2.heap.size w2 w4 := hB23.trans (hB34.mono hB23.size)
    have hne : g2 ≠ g1 := by have := Hb1.out.lt; omega
    have hT : TT w w4 w2.heap.size g1 g2 A1 A2 L c1 c2 0 0 f := ⟨Hb1.out.below hB34 Hb1.out.lt, hb2, Ho1.out.below hB34 (Nat.le_refl _), ho2.more hB23.size, hB03.trans (hB34.mono hB03.size)⟩
    have HT4 := hid hT
    have hS4 := hid (hS0.out.below hB24)
    have hg1 : w2.heap.size ≤ g1 := hgs1
    have hg2 : w2.heap.size ≤ g2 := Nat.le_trans hB23.size hgs2
    have hw2 := hB12.size
    clear hT ho2 hb2 Ho1 Hb1 HR3 hB03 hB34 hB23 hB24 hB12 hB02 hB1 hgs1 hgs2 hS0
    go_wp2_with (at_make; refine wpl_make rfl 22 5 _ _ rfl Tryd.underlying22 info8t .i64 .i64 _ _ rfl rfl 65537 rfl rfl (by omega) ?_)
    have hB45 : Below w4.heap.size w4 (w4.alloc (.cells (row 65537 (b8 fun _ => 0)) 5)) := (Below.refl _ _).alloc (Nat.le_refl _) _
    have HT5 := hid (HT4.out.below hB45)
    have hS5 := hid (hS4.out.below hB45)
    generalize (w4.alloc (.cells (row 65537 (b8 fun _ => 0)) 5)) = w5 at *
    clear hB45 HT4 hS4
    refine (new_big _ 65537 65537 _ (by omega) (by omega)).mono ?_
    rintro e w6 ⟨rfl, rfl⟩
    go_wp2_with fail
    refine (code_hit 2 _ (Hg.out.below HT5.out.bel)).mono ?_
    rintro e w6 ⟨rfl, hB56⟩
    have HT6 := HT5.out.below hB56
    have hS6 := hS5.out.below hB56
    clear HT5 hS5 hB56
    go_wp2_with fail
    go_loopw [10] (fun y wr => ∃ k : Nat, k ≤ L ∧ y = .int .i64 (k : Int) ∧ TT w wr w2.heap.size g1 g2 A1 A2 L c1 c2 0 0 f ∧ Scr w1.heap.size w2.heap.size A0 L f k wr) (fun y _ => L - (intOf y).toNat)
    case atStart => exact ⟨0, by omega, rfl, HT6, hS6⟩
    case round =>
      clear HT6 hS6
      obtain ⟨k, hk, rfl, hT, hS⟩ := hrel
      have HT := hid hT
      have HS := hid hS
      clear hT hS
      by_cases hlt : k < L
      · obtain ⟨g0, cur, rfl, hg0, hg0', hb0, hcs⟩ := HS.out (by omega)
        have hcx : wr.cell? ⟨g0, k, none⟩ = some (.int .u8 ((f k : Nat) : Int)) := (hb0.cell k).trans (hcs k (by omega) hlt)
        have hfr := hb0.free k
        have Hb0 := hid hb0
        have Hcs := hid hcs
        have Hx : Hid (∃ x, f k = x) := ⟨_, rfl⟩
        obtain ⟨x, hxe⟩ := Hx.out
        rw [hxe] at hcx
        clear hcs hxe hb0
        go_wp2_with fail
        go_round
        case rel =>
          refine ⟨k + 1, by omega, val_int (by omega), HT.out.set _ _ (by show w.heap.size ≤ g0; omega) (by show g1 ≠ g0; omega) (by show g2 ≠ g0; omega) ?_ ?_, ?_⟩
          · intro ad hA
            have := (own_at HT.out.o1 ad hA).1
            show ad.block ≠ g0
            omega
          · intro ad hA
            have := (own_at HT.out.o2 ad hA).1
            show ad.block ≠ g0
            omega
          · intro _
            refine ⟨g0, _, rfl, hg0, hg0', Hb0.out.setCell k _, fun j hj hjL => ?_⟩
            rw [Array.getElem?_setIfInBounds_ne (by omega)]
            exact Hcs.out j (by omega) hjL
        case measure => simp [intOf]; omega
      · clear HS
        go_wp2_with fail
        obtain ⟨h, he, hhL⟩ : ∃ h : Nat, (L : Int) / 2 = (h : Int) ∧ h ≤ L := ⟨L / 2, by omega, by omega⟩
        refine (take_of _ g1 _ _ L 0 h f _ he HT.out.b1 HT.out.o1 (by omega) (by omega)).mono ?_
        rintro e w8 ⟨vx, rfl, hox, hk8, hb8⟩
        have HT8 := HT.out.take1 (by omega) hne hk8 hb8
        obtain ⟨Ax, cx, rfl, hcx, -, -⟩ := hox.slice'
        have hS8 := scr_of hox
        have hN1 : g1 < wr.heap.size := HT.out.b1.lt
        have hN2 : g2 < wr.heap.size := HT.out.b2.lt
        have hN3 : Hid (∀ ad, A1 = some ad → ad.block < wr.heap.size) := fun ad hA => (own_at HT.out.o1 ad hA).2
        have hN4 : Hid (∀ ad, A2 = some ad → ad.block < wr.heap.size) := fun ad hA => (own_at HT.out.o2 ad hA).2
        have hN5 := HT.out.bel.size
        obtain ⟨N, hN⟩ : ∃ N, N = wr.heap.size := ⟨_, rfl⟩
        obtain ⟨M, hM⟩ : ∃ M, M = w8.heap.size := ⟨_, rfl⟩
        rw [← hN] at hN1 hN2 hN3 hN4 hN5 hS8
        rw [← hM] at hS8
        clear hox hk8 hb8 HT hN hM
        go_wp2_with fail
        rename World => wo
        go_loopw [13] (fun y wr => ∃ k : Nat, k ≤ h ∧ y = .int .i64 (k : Int) ∧ TT w wr w2.heap.size g1 g2 A1 A2 L c1 c2 (0 + h) 0 f ∧ Scr N M Ax h (fun i => f (0 + i)) k wr) (fun y _ => h - (intOf y).toNat)
        case atStart => exact ⟨0, by omega, rfl, HT8, hS8⟩
        case round =>
          clear HT8 hS8
          obtain ⟨k2, hk2, rfl, hT, hS⟩ := hrel
          have HT := hid hT
          have HS := hid hS
          clear hT hS
          by_cases hlt2 : k2 < h
          · obtain ⟨gx, cur, rfl, hgx, hgx', hb0, hcs⟩ := HS.out (by omega)
            have hcx : wr.cell? ⟨gx, k2, none⟩ = some (.int .u8 ((f (0 + k2) : Nat) : Int)) := (hb0.cell k2).trans (hcs k2 (by omega) hlt2)
            have hfr := hb0.free k2
            have Hb0 := hid hb0
            have Hcs := hid hcs
            have Hx : Hid (∃ x, f (0 + k2) = x) := ⟨_, rfl⟩
            obtain ⟨x, hxe⟩ := Hx.out
            rw [hxe] at hcx
            clear hcs hxe hb0
            go_wp2_with fail
            go_round
            case rel =>
              refine ⟨k2 + 1, by omega, val_int (by omega), HT.out.set _ _ (by show w.heap.size ≤ gx; omega) (by show g1 ≠ gx; omega) (by show g2 ≠ gx; omega) ?_ ?_, ?_⟩
              · intro ad hA
                have := hN3.out ad hA
                show ad.block ≠ gx
                omega
              · intro ad hA
                have := hN4.out ad hA
                show ad.block ≠ gx
                omega
              · intro _
                refine ⟨gx, _, rfl, hgx, hgx', Hb0.out.setCell k2 _, fun j hj hjL => ?_⟩
                rw [Array.getElem?_setIfInBounds_ne (by omega)]
                exact Hcs.out j (by omega) hjL
            case measure => simp [intOf]; omega
          · clear HS
            go_wp2_with fail
            refine (left_of ((L : Int) - (h : Int)) g1 A1 L c1 (0 + h) _ HT.out.b1 (by omega) (by omega) (by omega)).mono ?_
            rintro e w9 ⟨rfl, hB9⟩
            have HT9 := hid (HT.out.below hB9)
            go_wp2_with fail
            refine (take_of _ g1 _ _ L (0 + h) (L - h) f _ (by omega) HT9.out.b1 HT9.out.o1 (by omega) (by omega)).mono ?_
            rintro e w10 ⟨vy, rfl, hoy, hk10, hb10⟩
            have HT10 := hid (HT9.out.take1 (by omega) hne hk10 hb10)
            obtain ⟨Ay, cy, rfl, hcy, -, -⟩ := hoy.slice'
            have Hoy := hid hoy
            clear hoy hk10 hb10 HT HT9 hB9
            go_wp2_with fail
            refine (take_of _ g2 _ _ L 0 h f _ (by first | rfl | exact he) HT10.out.b2 HT10.out.o2 (by omega) (by omega)).mono ?_
            rintro e w11 ⟨vq, rfl, -, hk11, hb11⟩
            have HT11 := hid (HT10.out.take2 (by omega) hne.symm hk11 hb11)
            have Hoy11 := hid (hk11.own HT10.out.b2 (by decide) Hoy.out)
            clear hk11 hb11 HT10 Hoy
            go_wp2_with fail
            refine (left_of ((L : Int) - (h : Int)) g2 A2 L c2 (0 + h) _ HT11.out.b2 (by omega) (by omega) (by omega)).mono ?_
            rintro e w12 ⟨rfl, hB12⟩
            have HT12 := hid (HT11.out.below hB12)
            have Hoy12 := hid (Hoy11.out.below hB12 (Nat.le_refl _))
            clear HT11 Hoy11 hB12
            go_wp2_with fail
            refine (take_of _ g2 _ _ L (0 + h) (L - h) f _ (by omega) HT12.out.b2 HT12.out.o2 (by omega) (by omega)).mono ?_
            rintro e w13 ⟨vz, rfl, hoz, hk13, hb13⟩
            have HT13 := hid (HT12.out.take2 (by omega) hne.symm hk13 hb13)
            have Hoy13 := hid (hk13.own HT12.out.b2 (by decide) Hoy12.out)
            obtain ⟨Az, cz, rfl, hcz, -, -⟩ := hoz.slice'
            have Hoz := hid hoz
            clear hoz hk13 hb13 HT12 Hoy12
            go_wp2_with fail
            refine (same_yes Ay Az (L - h) cy cz _ _ (by omega) Hoy13.out.reads Hoz.out.reads).mono ?_
            rintro e w14 ⟨rfl, hB14⟩
            go_wp2_with fail
            go_ret
            exact ⟨rfl, HT13.out.bel.trans (hB14.mono HT13.out.bel.size)⟩
  · have hLI : ¬ (L : Int) ≤ 1000 := by omega
    go_enter Tryd.func7, Tryd.ntmps7
    go_wp2_with fail
    refine (awake_any _ Hg.out).mono ?_
    rintro e w1 ⟨rfl, hB1⟩
    go_wp2_with fail
    refine (awake_any _ (Hg.out.below hB1)).mono ?_
    rintro e w2 ⟨rfl, hB2⟩
    go_wp2_with fail
    go_ret
    exact ⟨rfl, hB1.trans (hB2.mono hB1.size)⟩
end Go.Proofs.YtlcllolfadlgfaaDoor.Law04
