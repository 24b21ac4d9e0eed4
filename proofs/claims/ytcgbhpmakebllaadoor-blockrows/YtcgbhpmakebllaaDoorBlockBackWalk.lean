/-
  BlockBack returns true: its walk.
-/
import Derived.Test.YtcgbhpmakebllaaDoorAwake05
import Derived.Test.YtcgbhpmakebllaaDoorTurn
namespace Go.Proofs.YtcgbhpmakebllaaDoor.Law05
open Mem As Bk Go.ChangeShapes Go.WideShapes Go.ChangeAt Go.RowKit
theorem kind_of (n : Nat) : ∃ k : Nat, (k = 1 ∨ k = 2 ∨ k = 3) ∧ 1 + (n : Int) % 3 = (k : Int) := ⟨1 + n % 3, by omega, by omega⟩
theorem tyOf_ne (k : Nat) : tyOf k ≠ 64 := by unfold tyOf; split <;> decide
theorem tyOf_ne8 (k : Nat) : tyOf k ≠ 5 := by unfold tyOf; split <;> decide
theorem sz_le (k : Nat) : sz k ≤ 16 ∧ 0 < sz k := by unfold sz; split <;> omega
theorem cutX (k g : Nat) (w : World) : (Instr.sliceAt 36 (.pointer (some ⟨g, 0, none⟩)) none (some (.int .i64 (sz k : Int))) none).run Tryd.prog w = .ok (.slice (some ⟨g, 0, none⟩) (sz k) 16) w := by
  unfold sz
  split <;> kernel_rfl
theorem cs_of {n m : Nat} {f : Nat → Nat} (h : m ≤ n) : ∀ i, i < m → (row n (b8 f))[i]? = some (.int .u8 ((f i : Nat) : Int)) := fun i hi => row_get n _ i (by omega)
theorem reads_of {w : World} {g : Nat} {t : TypeId} {n m : Nat} {f : Nat → Nat} (h : Blk w g t (row n (b8 f))) (hm : m ≤ n) : Reads w w.heap.size (some ⟨g, 0, none⟩) m f := (Blk.reads h).less hm
set_option maxRecDepth 100000 in
set_option maxHeartbeats 1000000 in
theorem back_true (n : Nat) (A : Option Addr) (L c : Nat) (key : Nat → Nat) (A2 : Option Addr) (n2 c2 : Nat) (F : Nat → Nat) (x : Nat → Nat) (bk : Bool) (w : World) (hg : Laid w) (_hn : n < 256) (hR : Reads w w.heap.size A L key) (hk : ∀ i, i < L → key i < 256) (hR2 : Reads w w.heap.size A2 n2 F) (hF : ∀ i, i < n2 → F i < 256) (hA2 : A2 = none → n2 = 0 ∧ c2 = 0) (hx : ∀ i, i < 16 → x i < 256) :
    Calls Tryd.prog 4 #[.int .u8 (n : Int), .slice A L c, .slice A2 n2 c2, .agg (row 16 (b8 x)), .bool bk] w fun e w' => e = .returned (.bool true) ∧ Below w.heap.size w w' := by
  obtain ⟨k, hkk, hkI⟩ := kind_of n
  have hB0 : Below w.heap.size w (w.alloc (.cells (row 16 (b8 x)) 36)) := (Below.refl _ _).alloc (Nat.le_refl _) _
  have HX := hid (Blk.fresh w 36 (row 16 (b8 x)))
  have Hg := hid (hg.below hB0)
  have HR := hid ((hR.below hB0).more hB0.size)
  have HR2 := hid ((hR2.below hB0).more hB0.size)
  have Hk := hid hk
  have HF := hid hF
  have HA2 := hid hA2
  have Hx := hid hx
  have HB0 := hid hB0
  clear hg hR hR2 hk hF hA2 hx hB0
  by_cases hL : L ≤ 100 ∧ n2 ≤ 2000
  · obtain ⟨hL1, hL2⟩ := hL
    have hL1I : (L : Int) ≤ 100 := by omega
    have hL2I : (n2 : Int) ≤ 2000 := by omega
    go_enter Tryd.func4, Tryd.ntmps4
    go_wp2_with fail
    generalize w.alloc (.cells (row 16 (b8 x)) 36) = w0 at *
    refine (awake_any _ Hg.out).mono ?_
    rintro e w1 ⟨rfl, hB1⟩
    have HR1 := hid ((HR.out.below hB1).more hB1.size)
    have HR21 := hid ((HR2.out.below hB1).more hB1.size)
    have HX1 := hid (HX.out.below hB1 HX.out.lt)
    have HB1 := hid (HB0.out.trans (hB1.mono HB0.out.size))
    clear HR HR2 HX HB0 hB1
    go_wp2_with fail
    refine (book_any A2 n2 c2 F _ (by omega) HA2.out HF.out HR21.out).mono ?_
    rintro e w2 ⟨p, rfl, hp1, hp2, hp3, hbk, hB2⟩
    have HR2 := hid ((HR1.out.below hB2).more hB2.size)
    have HX2 := hid (HX1.out.below hB2 HX1.out.lt)
    have Hbk2 := hid hbk
    have hlow : Hid (∀ g ∈ p.S, w.heap.size ≤ g) := hid (fun g hg => by have := hbk.lo.2 g hg; have := HB1.out.size; omega)
    have HB2 := hid (HB1.out.trans (hB2.mono HB1.out.size))
    clear HR1 HR21 HX1 HB1 hB2 hbk
    clear hkI
    go_wp2_with fail
    refine (right_any _ k rfl hkk A L c key _ (by omega) HR2.out).mono ?_
    rintro e w3 ⟨v, rfl, ho, hB3⟩
    obtain ⟨A3, c3, rfl, hc3, hA3, -⟩ := ho.slice'
    have HX3 := hid (HX2.out.below hB3 HX2.out.lt)
    have Hbk3 := hid (Hbk2.out.keep hB3)
    have HB3 := hid (HB2.out.trans (hB3.mono HB2.out.size))
    have Ho := hid ho
    clear HR2 HX2 Hbk2 HB2 hB3 ho
    have hfit := rn_fits hkk
    have hrl := (rn_le k).1
    go_wp2_with fail
    refine (new_any k A3 (rn k) c3 (rk L key) p _ (by omega) hA3 (fun i _ => rk_lt Hk.out i) Ho.out.reads hfit).mono ?_
    rintro e w4 ⟨gc, rfl, hci, -, hB4⟩
    have HX4 := hid (HX3.out.below hB4 HX3.out.lt)
    have Hbk4 := hid (Hbk3.out.keep hB4)
    have Hci4 := hid hci
    have HB4 := hid (HB3.out.trans (hB4.mono HB3.out.size))
    clear HX3 Hbk3 HB3 hB4 hci Ho
    go_wp2_with fail
    refine (size_any _ p k gc _ _ _ Hci4.out).mono ?_
    rintro e w' ⟨rfl, rfl⟩
    obtain ⟨hs1, hs2⟩ := sz_le k
    have hcut := cutX k
    have Hxs : Hid (∀ i, i < sz k → x i < 256) := hid (fun i hi => Hx.out i (by omega))
    rcases ht1 : turnC k (rn k) (rk L key) p [] 0 bk x with ⟨_ | y, R1, d1⟩
    · obtain ⟨rfl, hn16⟩ := turn_first hfit ht1
      rw [hp2] at hn16
      have hn16I : (n2 : Int) < 16 := by omega
      have Ht1 := hid ht1
      clear ht1
      go_wp2_with fail
      refine (do_blk _ p 0 [] 3 gc _ _ _ w.heap.size 16 bk x Hci4.out Hbk4.out 36 _ HX4.out (by decide) (cs_of hs1) Hxs.out _ _ _ Ht1.out).mono ?_
      rintro e w5 ⟨hK5, hbk5, ⟨y, g5, hy, -⟩ | ⟨j, xf, hy, rfl, -⟩⟩
      · cases hy
      have HB5 := hid (HB4.out.trans (hK5.below hlow.out HB4.out.size))
      go_wp2_with fail
      go_ret
      exact ⟨rfl, HB5.out⟩
    · obtain ⟨hI1, hyb, -, -⟩ := turn_inv hfit (fun i _ => rk_lt Hk.out i) Hbk4.out.inv Hxs.out ht1
      have Hyb := hid (hyb y rfl)
      obtain ⟨z, hz1, hz2⟩ := turn_back hfit (fun i _ => rk_lt Hk.out i) Hbk4.out.inv Hxs.out ht1
      have Hz1 := hid hz1
      have Hz2 := hid hz2
      have Ha1 := hid (turn_again hfit Hbk4.out.inv Hxs.out ht1)
      have Ht1 := hid ht1
      clear ht1 hz1 hz2 hyb hI1
      go_wp2_with fail
      refine (do_blk _ p 0 [] k gc _ _ _ w.heap.size 16 bk x Hci4.out Hbk4.out 36 _ HX4.out (by decide) (cs_of hs1) Hxs.out _ _ _ Ht1.out).mono ?_
      rintro e w5 ⟨hK5, hbk5, ⟨y', g5, hy, rfl, hbg5, -⟩ | ⟨j, xf, hy, -⟩⟩
      rotate_left
      · cases hy
      cases hy
      have Hci5 := hid (Hci4.out.keepS Hbk4.out hK5)
      have HX5 := hid (hK5.blk HX4.out (Hbk4.out.free HX4.out (by decide)))
      have Hbk5 := hid hbk5
      have HY5 := hid hbg5
      have HB5 := hid (HB4.out.trans (hK5.below hlow.out HB4.out.size))
      clear hK5 hbk5 hbg5 Hci4 HX4 Hbk4 HB4
      go_wp2_with fail
      refine (do_blk _ p d1 R1 k gc _ _ _ g5 (sz k) (!bk) y Hci5.out Hbk5.out (tyOf k) _ HY5.out (tyOf_ne k) (cs_of (Nat.le_refl _)) Hyb.out _ _ _ Hz1.out).mono ?_
      rintro e w6 ⟨hK6, hbk6, ⟨y', g6, hy, rfl, hbg6, -⟩ | ⟨j, xf, hy, -⟩⟩
      rotate_left
      · cases hy
      cases hy
      have Hci6 := hid (Hci5.out.keepS Hbk5.out hK6)
      have HX6 := hid (hK6.blk HX5.out (Hbk5.out.free HX5.out (by decide)))
      have HY6 := hid (hK6.blk HY5.out (Hbk5.out.free HY5.out (tyOf_ne k)))
      have Hbk6 := hid hbk6
      have HZ6 := hid hbg6
      have HB6 := hid (HB5.out.trans (hK6.below hlow.out HB5.out.size))
      clear hK6 hbk6 hbg6 Hci5 HX5 HY5 Hbk5 HB5
      go_wp2_with fail
      refine (size_any _ p k gc _ _ _ Hci6.out).mono ?_
      rintro e w' ⟨rfl, rfl⟩
      go_wp2_with fail
      refine (do_blk _ p d1 R1 k gc _ _ _ w.heap.size 16 bk x Hci6.out Hbk6.out 36 _ HX6.out (by decide) (cs_of hs1) Hxs.out _ _ _ Ha1.out).mono ?_
      rintro e w7 ⟨hK7, hbk7, ⟨y', g7, hy, rfl, hbg7, -⟩ | ⟨j, xf, hy, -⟩⟩
      rotate_left
      · cases hy
      cases hy
      have Hci7 := hid (Hci6.out.keepS Hbk6.out hK7)
      have HX7 := hid (hK7.blk HX6.out (Hbk6.out.free HX6.out (by decide)))
      have HY7 := hid (hK7.blk HY6.out (Hbk6.out.free HY6.out (tyOf_ne k)))
      have HZ7 := hid (hK7.blk HZ6.out (Hbk6.out.free HZ6.out (tyOf_ne k)))
      have HA7 := hid hbg7
      have HB7 := hid (HB6.out.trans (hK7.below hlow.out HB6.out.size))
      clear hK7 hbk7 hbg7 Hci6 HX6 HY6 HZ6 Hbk6 HB6
      go_wp2_with fail
      refine (size_any _ p k gc _ _ _ Hci7.out).mono ?_
      rintro e w' ⟨rfl, rfl⟩
      go_wp2_with fail
      refine (same_any _ _ (sz k) (sz k) 16 z x _ (by omega) (Blk.reads HZ7.out) (reads_of HX7.out hs1)).mono ?_
      rintro e w8 ⟨rfl, hB8⟩
      rw [Hz2.out]
      have HY8 := hid (HY7.out.below hB8 HY7.out.lt)
      have HA8 := hid (HA7.out.below hB8 HA7.out.lt)
      have HB8 := hid (HB7.out.trans (hB8.mono HB7.out.size))
      clear HY7 HA7 HB7 hB8 HX7 HZ7
      go_wp2_with fail
      refine (same_any _ _ (sz k) (sz k) (sz k) y y _ (by omega) (Blk.reads HA8.out) (Blk.reads HY8.out)).mono ?_
      rintro e w9 ⟨rfl, hB9⟩
      rw [eqB_refl]
      go_wp2_with fail
      go_ret
      exact ⟨rfl, HB8.out.trans (hB9.mono HB8.out.size)⟩
  · by_cases hL1 : L ≤ 100
    · have hL1I : (L : Int) ≤ 100 := by omega
      have hL2I : ¬ (n2 : Int) ≤ 2000 := by omega
      go_enter Tryd.func4, Tryd.ntmps4
      go_wp2_with fail
      generalize w.alloc (.cells (row 16 (b8 x)) 36) = w0 at *
      refine (awake_any _ Hg.out).mono ?_
      rintro e w1 ⟨rfl, hB1⟩
      go_wp2_with fail
      refine (awake_any _ (Hg.out.below hB1)).mono ?_
      rintro e w2 ⟨rfl, hB2⟩
      go_wp2_with fail
      go_ret
      exact ⟨rfl, HB0.out.trans ((hB1.trans (hB2.mono hB1.size)).mono HB0.out.size)⟩
    · have hL1I : ¬ (L : Int) ≤ 100 := by omega
      go_enter Tryd.func4, Tryd.ntmps4
      go_wp2_with fail
      generalize w.alloc (.cells (row 16 (b8 x)) 36) = w0 at *
      refine (awake_any _ Hg.out).mono ?_
      rintro e w1 ⟨rfl, hB1⟩
      go_wp2_with fail
      refine (awake_any _ (Hg.out.below hB1)).mono ?_
      rintro e w2 ⟨rfl, hB2⟩
      go_wp2_with fail
      go_ret
      exact ⟨rfl, HB0.out.trans ((hB1.trans (hB2.mono hB1.size)).mono HB0.out.size)⟩
end Go.Proofs.YtcgbhpmakebllaaDoor.Law05
