/-
  BlockKeeps returns true: its walk.
-/
import Derived.Test.YtcgbhpmakebllaaDoorBlockBackWalk
namespace Go.Proofs.YtcgbhpmakebllaaDoor.Bk
open Mem Go.ChangeShapes Go.WideShapes Go.ChangeAt Go.RowKit
theorem tyOf_book (k : Nat) : tyOf k ≠ 62 := by unfold tyOf; split <;> decide
theorem tyOf_all (k : Nat) : tyOf k ≠ 56 ∧ tyOf k ≠ 22 ∧ tyOf k ≠ 24 ∧ tyOf k ≠ 9 := by unfold tyOf; split <;> decide
theorem _root_.Go.Proofs.YtcgbhpmakebllaaDoor.Mem.Blk.val' {w : World} {g : Nat} {t : TypeId} {n : Nat} {f : Nat → Nat} (h : Blk w g t (row n (b8 f))) (i : Nat) (hi : i < n) : w.cell? ((⟨g, 0, none⟩ : Addr).add i) = some (.int .u8 ((f i : Nat) : Int)) := by
  rw [add_zero_off, h.cell, row_get _ _ _ hi]; rfl
theorem _root_.Go.Proofs.YtcgbhpmakebllaaDoor.Mem.Blk.free' {w : World} {g : Nat} {t : TypeId} {cs : Array Value} (h : Blk w g t cs) (i : Nat) : w.frozen? ((⟨g, 0, none⟩ : Addr).add i) = false := by
  rw [add_zero_off]; exact h.free i
theorem KeptS.cell1 {g : Nat} {a w : World} (h : KeptS [g] a w) (i : Nat) (v : Value) : KeptS [g] a (w.setCell ⟨g, i, none⟩ v) :=
  h.trans ⟨rfl, rfl, rfl, by simp, fun j _ hs => heap_setCell_other w ⟨g, i, none⟩ j v (by simpa using hs)⟩
theorem KeptS.own1 {g base e n : Nat} {w w' : World} {v : Value} {f : Nat → Nat} (h : KeptS [g] w w') (ho : Own w base e 1 v n f) (hS : ∀ j cs, Blk w j e cs → j ≠ g) : Own w' base e 1 v n f :=
  h.own ho (fun j cs hj => by simpa using hS j cs hj)
theorem KeptS.ownLow {g base e n : Nat} {w w' : World} {v : Value} {f : Nat → Nat} (h : KeptS [g] w w') (ho : Own w base e 1 v n f) (hS : ∀ j c, v = .slice (some ⟨j, 0, none⟩) n c → base ≤ j → j ≠ g) : Own w' base e 1 v n f := by
  obtain ⟨h1, h2 | ⟨k, c, cur, rfl, hbk, hblk, hnc, hcm, hsz, hcs⟩⟩ := ho
  · exact ⟨h1, .inl h2⟩
  · exact ⟨h1, .inr ⟨k, c, cur, rfl, hbk, h.blk hblk (by simpa using hS k c rfl hbk), hnc, hcm, hsz, hcs⟩⟩
theorem _root_.Go.Proofs.YtcgbhpmakebllaaDoor.Mem.Own.low {w : World} {base : Nat} {e n : Nat} {v : Value} {f : Nat → Nat} (ho : Own w base e 1 v n f) : ∀ j m c, v = .slice (some ⟨j, 0, none⟩) m c → j < w.heap.size := by
  intro j m c hv
  rcases ho.form with ⟨h, _⟩ | ⟨g, c', cur, h, _, hl, _⟩
  · rw [h] at hv; cases hv
  · rw [h] at hv; cases hv; exact hl
theorem BookAt.tapeLow {w : World} {p : Pl} {d : Nat} {R : List Rw} (h : BookAt w p d R) : ∀ j m c, p.v = .slice (some ⟨j, 0, none⟩) m c → j < w.heap.size := h.own.low
theorem CiAt.keep1 {w w' : World} {p : Pl} {k gc base L g : Nat} {key : Nat → Nat} {t : TypeId} {cs : Array Value} (h : CiAt w p k gc base L key) (hB : KeptS [g] w w') (hg : Blk w g t cs) (ht : t ≠ 56 ∧ t ≠ 22 ∧ t ≠ 24 ∧ t ≠ 9) (ho : t ≠ 5 ∨ g < base) : CiAt w' p k gc base L key := by
  have hne : ∀ {j : Nat} {u : TypeId} {ds : Array Value}, Blk w j u ds → t ≠ u → j ∉ [g] := fun hj hu => by simpa using hg.ne hj hu
  have hown : ∀ {v : Value}, Own w base 5 1 v L key → Own w' base 5 1 v L key := fun {v} h5 => by
    rcases ho with ho | ho
    · exact hB.own1 h5 (fun j ds hj => hg.ne hj ho)
    · exact hB.ownLow h5 (fun j c _ hj => by omega)
  obtain ⟨h0, ⟨h1, h2, kb, v, h3, h4, h5⟩ | ⟨h1, h2, kb, v, h3, h4, h5⟩ | ⟨h1, h2, kb, v, h3, h4, h5⟩⟩ := h
  · exact ⟨h0, .inl ⟨h1, h2, kb, v, hB.blk h3 (hne h3 ht.1), hB.blk h4 (hne h4 ht.2.1), hown h5⟩⟩
  · exact ⟨h0, .inr (.inl ⟨h1, h2, kb, v, hB.blk h3 (hne h3 ht.1), hB.blk h4 (hne h4 ht.2.1), hown h5⟩)⟩
  · exact ⟨h0, .inr (.inr ⟨h1, h2, kb, v, hB.blk h3 (hne h3 ht.1), hB.blk h4 (hne h4 ht.2.2.1), hB.blk h5 (hne h5 ht.2.2.2)⟩)⟩
theorem BookAt.keep1 {w w' : World} {p : Pl} {d : Nat} {R : List Rw} {g : Nat} {t : TypeId} {cs : Array Value} (h : BookAt w p d R) (hB : KeptS [g] w w') (hg : Blk w g t cs) (ht : t ≠ 62 ∧ t ≠ 64) (ho : t ≠ 5 ∨ ∀ j c, p.v = .slice (some ⟨j, 0, none⟩) p.n c → j ≠ g) : BookAt w' p d R := by
  have hne : ∀ {j : Nat} {u : TypeId} {ds : Array Value}, Blk w j u ds → t ≠ u → j ∉ [g] := fun hj hu => by simpa using hg.ne hj hu
  refine ⟨hB.blk h.book (hne h.book ht.1), hB.blk h.tape (hne h.tape ht.2), ?_, fun bk => hB.map (h.maps bk) (by simpa using (h.maps bk).ne_blk hg), h.ne, h.inv, h.lo⟩
  rcases ho with ho | ho
  · exact hB.own1 h.own (fun j ds hj => hg.ne hj ho)
  · exact hB.ownLow h.own (fun j c hv _ => ho j c hv)
end Go.Proofs.YtcgbhpmakebllaaDoor.Bk
namespace Go.Proofs.YtcgbhpmakebllaaDoor.Law05
open Mem As Bk Go.ChangeShapes Go.WideShapes Go.ChangeAt Go.RowKit
theorem eqA16 : Tryd.prog.eqGuardType Tryd.prog.depth 36 = false := by kernel_rfl
theorem exec_eqT16 {P : Program} {o : Oper} {a : Act} {w : World} (ty : TypeId) (x y : Operand) (rt : TypeId) (ho : o.op = .binOp .eql ty x y rt) (n : Nat) (f g : Nat → Nat) (hx : a.eval x = .agg (row n (b8 f))) (hy : a.eval y = .agg (row n (b8 g))) (r : Bool) (h : eqB n f g = r) (e : TypeId)
    (ht : P.underlying ty = some (.array n e)) (he : P.underlying e = some (.int .u8)) (hs : (P.info? e).map (·.size) = some 1) (hm : P.eqGuardType P.depth ty = false) :
    (execOp a.eval o).run P w = .ok (.value (.bool r)) w := by
  subst h; exact exec_eq ty x y rt ho n f g hx hy e ht he hs hm
open Mem As Bk Go.ChangeShapes Go.WideShapes Go.ChangeAt Go.RowKit
set_option maxRecDepth 100000 in
set_option maxHeartbeats 1000000 in
theorem keeps_true (n : Nat) (A : Option Addr) (L c : Nat) (key : Nat → Nat) (A2 : Option Addr) (n2 c2 : Nat) (F : Nat → Nat) (x : Nat → Nat) (w : World) (hg : Laid w) (_hn : n < 256) (hR : Reads w w.heap.size A L key) (hk : ∀ i, i < L → key i < 256) (hR2 : Reads w w.heap.size A2 n2 F) (hF : ∀ i, i < n2 → F i < 256) (hA2 : A2 = none → n2 = 0 ∧ c2 = 0) (hx : ∀ i, i < 16 → x i < 256) :
    Calls Tryd.prog 6 #[.int .u8 (n : Int), .slice A L c, .slice A2 n2 c2, .agg (row 16 (b8 x))] w fun e w' => e = .returned (.bool true) ∧ Below w.heap.size w w' := by
  obtain ⟨k, hkk, hkI⟩ := kind_of n
  have hB0 : Below w.heap.size w (w.alloc (.cells (row 16 (b8 x)) 36)) := (Below.refl _ _).alloc (Nat.le_refl _) _
  have HX := hid (Blk.fresh w 36 (row 16 (b8 x)))
  have Hg := hid (hg.below hB0)
  have HR := hid ((hR.below hB0).more hB0.size)
  have HR2 := hid ((hR2.below hB0).more hB0.size)
  have Hk := hid hk
  have HF := hid hF
  have HA2 := hid hA2
  have Hx := hid hx
  have HB0 := hid hB0
  clear hg hR hR2 hk hF hA2 hx hB0
  by_cases hL : L ≤ 100 ∧ n2 ≤ 2000 ∧ 32 ≤ n2
  · obtain ⟨hL1, hL2, hL3⟩ := hL
    have hL3I : ¬ (n2 : Int) < 32 := by omega
    have hL1I : (L : Int) ≤ 100 := by omega
    have hL2I : (n2 : Int) ≤ 2000 := by omega
    go_enter Tryd.func6, Tryd.ntmps6
    go_wp2_with fail
    generalize w.alloc (.cells (row 16 (b8 x)) 36) = w0 at *
    refine (awake_any _ Hg.out).mono ?_
    rintro e w1 ⟨rfl, hB1⟩
    have HR1 := hid ((HR.out.below hB1).more hB1.size)
    have HR21 := hid ((HR2.out.below hB1).more hB1.size)
    have HX1 := hid (HX.out.below hB1 HX.out.lt)
    have HB1 := hid (HB0.out.trans (hB1.mono HB0.out.size))
    clear HR HR2 HX HB0 hB1
    go_wp2_with fail
    refine (book_any A2 n2 c2 F _ (by omega) HA2.out HF.out HR21.out).mono ?_
    rintro e w2 ⟨p, rfl, hp1, hp2, hp3, hbk, hB2⟩
    have HR2 := hid ((HR1.out.below hB2).more hB2.size)
    have HX2 := hid (HX1.out.below hB2 HX1.out.lt)
    have Hbk2 := hid hbk
    have hlow : Hid (∀ g ∈ p.S, w.heap.size ≤ g) := hid (fun g hg => by have := hbk.lo.2 g hg; have := HB1.out.size; omega)
    have HB2 := hid (HB1.out.trans (hB2.mono HB1.out.size))
    clear HR1 HR21 HX1 HB1 hB2 hbk
    clear hkI
    go_wp2_with fail
    refine (right_any _ k rfl hkk A L c key _ (by omega) HR2.out).mono ?_
    rintro e w3 ⟨v, rfl, ho, hB3⟩
    obtain ⟨A3, c3, rfl, hc3, hA3, -⟩ := ho.slice'
    have HX3 := hid (HX2.out.below hB3 HX2.out.lt)
    have Hbk3 := hid (Hbk2.out.keep hB3)
    have HB3 := hid (HB2.out.trans (hB3.mono HB2.out.size))
    have Ho := hid ho
    have HoL := hid ho.low
    have HoB := hid HB2.out.size
    have HT := hid Hbk2.out.tapeLow
    have h23 := hid hB3.size
    clear HR2 HX2 Hbk2 HB2 hB3 ho
    have hfit := rn_fits hkk
    have hrl := (rn_le k).1
    go_wp2_with fail
    refine (new_any k A3 (rn k) c3 (rk L key) p _ (by omega) hA3 (fun i _ => rk_lt Hk.out i) Ho.out.reads hfit).mono ?_
    rintro e w4 ⟨gc, rfl, hci, -, hB4⟩
    have HX4 := hid (HX3.out.below hB4 HX3.out.lt)
    have Hbk4 := hid (Hbk3.out.keep hB4)
    have Hci4 := hid hci
    have HB4 := hid (HB3.out.trans (hB4.mono HB3.out.size))
    have Ho4 := hid (Ho.out.below hB4 (Nat.le_refl _))
    have hgcs := hid hB4.size
    clear HX3 Hbk3 HB3 hB4 hci Ho
    obtain ⟨hs1, hs2⟩ := sz_le k
    have hcut := cutX k
    have Hxs : Hid (∀ i, i < sz k → x i < 256) := hid (fun i hi => Hx.out i (by omega))
    rcases ht1 : turnC k (rn k) (rk L key) p [] 0 false x with ⟨_ | y, R1, d1⟩
    · have := (turn_first hfit ht1).2
      rw [hp2] at this
      omega
    obtain ⟨hI1, hyb, -, -⟩ := turn_inv hfit (fun i _ => rk_lt Hk.out i) Hbk4.out.inv Hxs.out ht1
    have Hyb := hid (hyb y rfl)
    have Ha1 := hid (turn_again hfit Hbk4.out.inv Hxs.out ht1)
    have Ht1 := hid ht1
    clear ht1 hyb hI1
    have hBw := (Below.refl w4.heap.size w4).alloc (Nat.le_refl _) (.cells (row 16 (b8 x)) 36)
    have HX5 := hid (HX4.out.alloc (.cells (row 16 (b8 x)) 36))
    have HW5 := hid (Blk.fresh w4 36 (row 16 (b8 x)))
    have Hci5 := hid (Hci4.out.keep hBw)
    have Hbk5 := hid (Hbk4.out.keep hBw)
    have Ho5 := hid (Ho4.out.below hBw (Nat.le_refl _))
    have HB5 := hid (HB4.out.trans (hBw.mono HB4.out.size))
    go_wp2_with (first
      | (with_reducible refine wpl_load rfl 36 _ rfl _ rfl 36 _ HX4.out 16 5 Tryd.underlying36 (i16' _) ?_)
      | (with_reducible refine wpl_alloc rfl 36 rfl _ z16 ?_)
      | (with_reducible refine wpl_store_new rfl 36 _ _ rfl w4 _ 16 _ rfl rfl 36 i16 (row_size _ _) ?_))
    clear hBw Hci4 Hbk4 Ho4 HB4 HX4
    have hw4 : Hid (w4.heap.size < (w4.alloc (.cells (row 16 (b8 x)) 36)).heap.size) := hid (by simp)
    generalize w4.alloc (.cells (row 16 (b8 x)) 36) = w5 at *
    generalize w4.heap.size = gw at *
    refine (size_any _ p k gc _ _ _ Hci5.out).mono ?_
    rintro e w' ⟨rfl, rfl⟩
    go_wp2_with fail
    refine (do_blk _ p 0 [] k gc _ _ _ w.heap.size 16 false x Hci5.out Hbk5.out 36 _ HX5.out (by decide) (cs_of hs1) Hxs.out _ _ _ Ht1.out).mono ?_
    rintro e w6 ⟨hK6, hbk6, ⟨y', g5, hy, rfl, hbg6, hg5⟩ | ⟨j, xf, hy, -⟩⟩
    rotate_left
    · cases hy
    cases hy
    have Hci6 := hid (Hci5.out.keepS Hbk5.out hK6)
    have HX6 := hid (hK6.blk HX5.out (Hbk5.out.free HX5.out (by decide)))
    have HW6 := hid (hK6.blk HW5.out (Hbk5.out.free HW5.out (by decide)))
    have Ho6 := hid (hK6.own Ho5.out (fun g cs hg => Hbk5.out.free hg (by decide)))
    have Hbk6 := hid hbk6
    have HP6 := hid hbg6
    have hx5 := hid HX5.out.lt
    have hwx5 := hid HW5.out.lt
    have HB6 := hid (HB5.out.trans (hK6.below hlow.out HB5.out.size))
    clear hK6 hbk6 hbg6 Hci5 HX5 HW5 Ho5 Hbk5 HB5 Ht1
    -- want := append of a copy
    have hBe := (Below.refl w6.heap.size w6).alloc (Nat.le_refl _) (.cells #[] 5)
    have He := hid (Own.empty w6 w6.heap.size 5 y (Nat.le_refl _))
    have HRp := hid ((Blk.reads HP6.out).below hBe)
    have HBe := hid hBe
    clear hBe
    go_wp2_with (at_builtin; (refine wpl_app_gen rfl _ _ 22 rfl w6.heap.size 5 (.int .u8 0) Tryd.underlying22 info_u8 rfl _ 0 _ rfl He.out (some ⟨g5, 0, none⟩) (sz k) (sz k) _ _ HRp.out (fun h => by cases h) rfl (by omega) (by simp) ?_))
    intro v7 w7 ho7 hB7
    have hB67 := HBe.out.trans hB7
    obtain ⟨A7, c7, rfl, hc7, -, -⟩ := ho7.slice'
    have Hwant : Hid (Own w7 w6.heap.size 5 1 (.slice A7 (sz k) c7) (sz k) y) := hid (ho7.ext (g := y) (fun i hi => by unfold cat; simp))
    have Hci7 := hid (Hci6.out.keep hB67)
    have HX7 := hid (HX6.out.below hB67 HX6.out.lt)
    have HW7 := hid (HW6.out.below hB67 HW6.out.lt)
    have HP7 := hid (HP6.out.below hB67 HP6.out.lt)
    have Ho7 := hid (Ho6.out.below hB67 (Nat.le_refl _))
    have Hbk7 := hid (Hbk6.out.keep hB67)
    have HB7 := hid (HB6.out.trans (hB67.mono HB6.out.size))
    have hP6 := hid HP6.out.lt
    have ho6lt := hid Ho6.out.low
    clear hB67 ho7 hB7 Hci6 HX6 HW6 HP6 Ho6 Hbk6 HB6 HBe He HRp
    go_wp2_with fail
    go_loopw [19] (fun y wr => ∃ (i : Nat) (m : Nat → Nat), i ≤ sz k ∧ y = .int .i64 (i : Int) ∧ Hid (∀ j, j < sz k → m j < 256) ∧ Blk wr g5 (tyOf k) (row (sz k) (b8 m)) ∧ KeptS [g5] w7 wr) (fun y _ => sz k - (intOf y).toNat)
    case atStart => exact ⟨0, y, by omega, rfl, Hyb, HP7.out, KeptS.refl _ _⟩
    case round =>
      obtain ⟨i, m, hi, rfl, Hm, hbm, hK⟩ := hrel
      by_cases hlt : i < sz k
      · have hmk := Hm.out i hlt
        go_wp2_with (first
          | (with_reducible refine wpl_sl1 rfl 22 _ _ rfl ⟨g5, 0, none⟩ (sz k) (sz k) rfl .i64 _ rfl i rfl 5 Tryd.underlying22 hlt i8q ?_)
          | (with_reducible refine wpl_ld rfl 5 _ rfl _ rfl .u8 Tryd.underlying5 _ (hbm.val' i hlt) ?_)
          | (with_reducible refine wpl_st rfl 5 _ _ rfl _ rfl .u8 _ rfl i8q _ (hbm.val' i hlt) (hbm.free' i) ?_))
        go_round
        case rel =>
          rw [show (255 : Int) = ((255 : Nat) : Int) from rfl, u8_xor_nat _ 255 hmk (by omega)]
          refine ⟨i + 1, upd m i (m i ^^^ 255), by omega, val_int (by omega), hid (fun j hj => ?_), ?_, hK.cell1 i _⟩
          · unfold upd
            split
            · exact Gf.xor_lt hmk (by omega)
            · exact Hm.out j hj
          · rw [← upd_b8, ← row_set]; exact hbm.setCell i _
        case measure => simp [intOf]; omega
      · have hltI : ¬ (i : Int) < (sz k : Int) := by omega
        have hg5w : w5.heap.size ≤ g5 := hg5
        have Hci8 := hid (Hci7.out.keep1 hK HP7.out (tyOf_all k) (.inl (tyOf_ne8 k)))
        have Hbk8 := hid (Hbk7.out.keep1 hK HP7.out ⟨tyOf_book k, tyOf_ne k⟩ (.inl (tyOf_ne8 k)))
        have HX8 := hid (hK.blk HX7.out (by have := hx5.out; simp; omega))
        have HW8 := hid (hK.blk HW7.out (by have := hwx5.out; simp; omega))
        have Ho8 := hid (hK.own1 Ho7.out (fun j cs hj e => HP7.out.ne hj (tyOf_ne8 k) e))
        have Hwant8 := hid (hK.own1 Hwant.out (fun j cs hj e => HP7.out.ne hj (tyOf_ne8 k) e))
        have HB8 := hid (HB7.out.trans (hK.below (B := w.heap.size) (fun g hg => by simp at hg; subst hg; have := hx5.out; omega) HB7.out.size))
        clear Hci7 Hbk7 HX7 HW7 Ho7 Hwant HB7 hbm hK Hm HP7
        obtain ⟨gO, cur, rfl, hbO, -⟩ := Own.blk Ho8.out (rn_le k).2
        have hgO3 := hid (HoL.out gO _ _ rfl)
        have hgO6 := hid (ho6lt.out gO _ _ rfl)
        have HbO := hid hbO
        have hrn0 := hid (rn_le k).2
        clear hbO HoL ho6lt
        go_wp2_with fail
        rename World => wB
        go_loopw [20] (fun y wr => ∃ (i : Nat) (m : Nat → Nat), i ≤ rn k ∧ y = .int .i64 (i : Int) ∧ Hid (∀ j, j < rn k → m j < 256) ∧ Own wr w2.heap.size 5 1 (.slice (some ⟨gO, 0, none⟩) (rn k) c3) (rn k) m ∧ KeptS [gO] wB wr) (fun y _ => rn k - (intOf y).toNat)
        case atStart => exact ⟨0, rk L key, by omega, rfl, hid (fun j _ => rk_lt Hk.out j), Ho8.out, KeptS.refl _ _⟩
        case round =>
          obtain ⟨i2, m2, hi2, rfl, Hm2, hom, hK2⟩ := hrel
          rename World => wr2
          by_cases hlt2 : i2 < rn k
          · have hmk := Hm2.out i2 hlt2
            obtain ⟨g, hgA, hgb, hgl, hcg, hfg, hoP⟩ := Own.put hom hlt2 (m2 i2 ^^^ 255)
            cases hgA
            have HoP := hid hoP
            clear hoP hom
            go_wp2_with (first
              | (with_reducible refine wpl_slb rfl 22 _ _ rfl gO (rn k) c3 rfl .i64 _ rfl i2 rfl 5 Tryd.underlying22 hlt2 i8q ?_)
              | (with_reducible refine wpl_ld rfl 5 _ rfl _ rfl .u8 Tryd.underlying5 _ hcg ?_)
              | (with_reducible refine wpl_st rfl 5 _ _ rfl _ rfl .u8 _ rfl i8q _ hcg hfg ?_))
            go_round
            case rel =>
              rw [show (255 : Int) = ((255 : Nat) : Int) from rfl, u8_xor_nat _ 255 hmk (by omega)]
              refine ⟨i2 + 1, upd m2 i2 (m2 i2 ^^^ 255), by omega, val_int (by omega), hid (fun j hj => ?_), HoP.out, hK2.cell1 i2 _⟩
              unfold upd
              split
              · exact Gf.xor_lt hmk (by omega)
              · exact Hm2.out j hj
            case measure => simp [intOf]; omega
          · have hlt2I : ¬ (i2 : Int) < (rn k : Int) := by omega
            obtain ⟨g, hgA, hgb, -⟩ := Own.put hom (i := 0) (by exact hrn0.out) 0
            cases hgA
            have Hci9 := hid (Hci8.out.keep1 hK2 HbO.out (by decide) (.inr hgO3.out))
            have Hbk9 := hid (Hbk8.out.keep1 hK2 HbO.out (by decide) (.inr (fun j c hv e => by have := HT.out j _ c hv; omega)))
            have HX9 := hid (hK2.blk HX8.out (by simpa using HbO.out.ne HX8.out (by decide)))
            have HW9 := hid (hK2.blk HW8.out (by simpa using HbO.out.ne HW8.out (by decide)))
            have Hwant9 := hid (hK2.ownLow Hwant8.out (fun j c _ hj => by have := hgO6.out; omega))
            have HB9 := hid (HB8.out.trans (hK2.below (B := w.heap.size) (fun g hg => by simp at hg; subst hg; have := HoB.out; omega) HB8.out.size))
            clear Hci8 Hbk8 HX8 HW8 Hwant8 HB8 hom hK2 Hm2 HbO Ho8
            go_wp2_with fail
            refine (size_any _ p k gc _ _ _ Hci9.out).mono ?_
            rintro e w' ⟨rfl, rfl⟩
            go_wp2_with fail
            refine (do_blk _ p d1 R1 k gc _ _ _ w.heap.size 16 false x Hci9.out Hbk9.out 36 _ HX9.out (by decide) (cs_of hs1) Hxs.out _ _ _ Ha1.out).mono ?_
            rintro e w10 ⟨hK10, hbk10, ⟨y', g10, hy, rfl, hbg10, -⟩ | ⟨j, xf, hy, -⟩⟩
            rotate_left
            · cases hy
            cases hy
            have HX10 := hid (hK10.blk HX9.out (Hbk9.out.free HX9.out (by decide)))
            have HW10 := hid (hK10.blk HW9.out (Hbk9.out.free HW9.out (by decide)))
            have Hwant10 := hid (hK10.own Hwant9.out (fun g cs hg => Hbk9.out.free hg (by decide)))
            have HQ10 := hid hbg10
            have HB10 := hid (HB9.out.trans (hK10.below hlow.out HB9.out.size))
            clear hK10 hbk10 hbg10 Hci9 HX9 HW9 Hwant9 Hbk9 HB9
            have HEq : Hid (eqB 16 x x = true) := hid (eqB_refl _ _)
            go_wp2_with (first
              | ((with_reducible refine wpg_val ?_ _ (exec_load 36 _ rfl _ rfl 36 16 _ HX10.out 5 Tryd.underlying36 i16) ?_); exact rfl)
              | ((with_reducible refine wpg_val ?_ _ (exec_load 36 _ rfl _ rfl 36 16 _ HW10.out 5 Tryd.underlying36 i16) ?_); exact rfl)
              | ((with_reducible refine wpg_val ?_ _ (exec_eqT16 36 _ _ _ rfl 16 _ _ rfl rfl true HEq.out 5 Tryd.underlying36 Tryd.underlying5 i8q eqA16) ?_); exact rfl))
            refine (same_any _ _ (sz k) (sz k) c7 y y _ (by omega) (Blk.reads HQ10.out) Hwant10.out.reads).mono ?_
            rintro e w11 ⟨rfl, hB11⟩
            rw [eqB_refl]
            go_wp2_with fail
            go_ret
            exact ⟨rfl, HB10.out.trans (hB11.mono HB10.out.size)⟩
  · by_cases hL1 : L ≤ 100
    · by_cases hL2 : n2 ≤ 2000
      · have a1 : (L : Int) ≤ 100 := by omega
        have a2 : (n2 : Int) ≤ 2000 := by omega
        have a3 : (n2 : Int) < 32 := by omega
        go_enter Tryd.func6, Tryd.ntmps6
        go_wp2_with fail
        generalize w.alloc (.cells (row 16 (b8 x)) 36) = w0 at *
        refine (awake_any _ Hg.out).mono ?_
        rintro e w1 ⟨rfl, hB1⟩
        go_wp2_with fail
        refine (awake_any _ (Hg.out.below hB1)).mono ?_
        rintro e w2 ⟨rfl, hB2⟩
        go_wp2_with fail
        go_ret
        exact ⟨rfl, HB0.out.trans ((hB1.trans (hB2.mono hB1.size)).mono HB0.out.size)⟩
      · have a1 : (L : Int) ≤ 100 := by omega
        have a2 : ¬ (n2 : Int) ≤ 2000 := by omega
        go_enter Tryd.func6, Tryd.ntmps6
        go_wp2_with fail
        generalize w.alloc (.cells (row 16 (b8 x)) 36) = w0 at *
        refine (awake_any _ Hg.out).mono ?_
        rintro e w1 ⟨rfl, hB1⟩
        go_wp2_with fail
        refine (awake_any _ (Hg.out.below hB1)).mono ?_
        rintro e w2 ⟨rfl, hB2⟩
        go_wp2_with fail
        go_ret
        exact ⟨rfl, HB0.out.trans ((hB1.trans (hB2.mono hB1.size)).mono HB0.out.size)⟩
    · have a1 : ¬ (L : Int) ≤ 100 := by omega
      go_enter Tryd.func6, Tryd.ntmps6
      go_wp2_with fail
      generalize w.alloc (.cells (row 16 (b8 x)) 36) = w0 at *
      refine (awake_any _ Hg.out).mono ?_
      rintro e w1 ⟨rfl, hB1⟩
      go_wp2_with fail
      refine (awake_any _ (Hg.out.below hB1)).mono ?_
      rintro e w2 ⟨rfl, hB2⟩
      go_wp2_with fail
      go_ret
      exact ⟨rfl, HB0.out.trans ((hB1.trans (hB2.mono hB1.size)).mono HB0.out.size)⟩
end Go.Proofs.YtcgbhpmakebllaaDoor.Law05
