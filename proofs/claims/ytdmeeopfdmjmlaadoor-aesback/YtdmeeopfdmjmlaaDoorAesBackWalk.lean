/-
  The walk of lockboxlaw02.AesBack: it returns true.
-/
import Derived.Test.YtdmeeopfdmjmlaaDoorLaw02
namespace Go.Proofs.YtdmeeopfdmjmlaaDoor.Aes
open Go.ChangeShapes Go.WideShapes Go.ChangeAt Go.RowKit Mem
set_option maxRecDepth 100000 in
set_option maxHeartbeats 4000000 in
theorem back_walk (A : Option Addr) (L c : Nat) (f : Nat → Nat) (wh : Nat) (b : Nat → Nat) (w : World) (hg : As.Laid w) (hR : Reads w w.heap.size A L f) (hf : ∀ i, i < L → f i < 256) (hwh : wh < 256) (hb : By16 b) :
    Calls Tryd.prog 5 #[.slice A L c, .int .u8 wh, .agg (row 16 (b8 b))] w fun e w' => e = .returned (.bool true) ∧ Below w.heap.size w w' := by
  have Hf := hid hf
  have Hb := hid hb
  have hB0 : Below w.heap.size w (w.alloc (.cells (row 16 (b8 b)) 33)) := (Below.refl _ _).alloc (Nat.le_refl _) _
  have hb0 := Blk.fresh w 33 (row 16 (b8 b))
  have hg0 := hid (hg.below hB0)
  have hR0 := (hR.below hB0).more hB0.size
  clear hf hb hg hR
  by_cases hL : L = 0 ∨ 100 < L
  · rcases hL with rfl | hL
    · go_enter Tryd.func5, Tryd.ntmps5
      go_wp2_with fail
      refine (awake_any _ hg0.out).mono ?_
      rintro e w1 ⟨rfl, hB1⟩
      have hg1 := hid (hg0.out.below hB1)
      have hB01 := hB0.trans (hB1.mono hB0.size)
      clear hB1 hB0 hb0 hR0 hg0
      go_wp2_with fail
      refine (awake_any _ hg1.out).mono ?_
      rintro e w2 ⟨rfl, hB2⟩
      go_wp2_with fail
      go_ret
      exact ⟨rfl, hB01.trans (hB2.mono hB01.size)⟩
    · have t0 : ((L : Int) == 0) = false := by simp; omega
      go_enter Tryd.func5, Tryd.ntmps5
      go_wp2_with fail
      refine (awake_any _ hg0.out).mono ?_
      rintro e w1 ⟨rfl, hB1⟩
      have hg1 := hid (hg0.out.below hB1)
      have hB01 := hB0.trans (hB1.mono hB0.size)
      clear hB1 hB0 hb0 hR0 hg0
      go_wp2_with fail
      refine (awake_any _ hg1.out).mono ?_
      rintro e w2 ⟨rfl, hB2⟩
      go_wp2_with fail
      go_ret
      exact ⟨rfl, hB01.trans (hB2.mono hB01.size)⟩
  · have hL0 : 0 < L := by omega
    have hL1 : L ≤ 100 := by omega
    have t0 : ((L : Int) == 0) = false := by simp; omega
    have HK := hid (kn_key L (wh % 3) hL0 (by omega))
    have Hbyt := hid (mod_by hL0 Hf.out (kn L (wh % 3)))
    have HN := hid (rnd_bound HK.out)
    have Hw : Hid (ByN (wsz (kn L (wh % 3))) (words (kn L (wh % 3)) (fun i => f (i % L)))) := hid (fun i _ => ex_lt (kn L (wh % 3)) (fun i => f (i % L)) (more (kn L (wh % 3))) Hbyt.out i)
    have Hn : Hid (16 * rnd (kn L (wh % 3)) + 16 ≤ wsz (kn L (wh % 3))) := hid (by rw [wsz_eq]; omega)
    clear hL
    go_enter Tryd.func5, Tryd.ntmps5
    go_wp2_with fail
    refine (awake_any _ hg0.out).mono ?_
    rintro e w1 ⟨rfl, hB1⟩
    have hR1 := (hR0.below hB1).more hB1.size
    have hb1 := hb0.below hB1 hb0.lt
    have hB01 := hB0.trans (hB1.mono hB0.size)
    clear hB1 hB0 hb0 hR0 hg0
    go_wp2_with fail
    refine (short' A L c (wh % 3) _ (by omega) f _ hL1 hR1).mono ?_
    rintro e w2 ⟨A2, c2, rfl, hc2, hR2, hB2⟩
    have hS : Lw w w2 w.heap.size b A2 (kn L (wh % 3)) (fun i => f (i % L)) := ⟨hb1.below hB2 hb1.lt, hR2, hB01.trans (hB2.mono hB01.size)⟩
    clear hR1 hb1 hB01 hR2 hB2
    generalize hNe : kn L (wh % 3) = N at *
    clear hNe
    generalize hge : (fun i => f (i % L)) = g at *
    clear hge
    go_wp2_with (with_reducible refine wpl_load rfl 33 _ rfl _ rfl 33 _ hS.blk 16 5 Tryd.underlying33 (i16' _) ?_)
    refine (enc_any A2 N c2 HK.out g b _ Hbyt.out Hb.out hS.reads).mono ?_
    rintro e w3 ⟨rfl, hB3⟩
    have hS3 := (hS.below hB3).alloc (.cells (row 16 (b8 (enc (words N g) (rnd N) b))) 33)
    have hc3 := Blk.fresh w3 33 (row 16 (b8 (enc (words N g) (rnd N) b)))
    clear hS hB3
    go_wp2_with (first | (with_reducible refine wpl_alloc rfl 33 rfl _ z16 ?_) | (with_reducible refine wpl_store_new rfl 33 _ _ rfl w3 _ 16 _ rfl rfl 33 i16 (row_size _ _) ?_) | (with_reducible refine wpl_load rfl 33 _ rfl _ rfl 33 _ hc3 16 5 Tryd.underlying33 (i16' _) ?_))
    generalize w3.alloc (.cells (row 16 (b8 (enc (words N g) (rnd N) b))) 33) = w4 at *
    refine (dec_any A2 N c2 HK.out g (enc (words N g) (rnd N) b) _ Hbyt.out (enc_by Hw.out Hn.out Hb.out) hS3.reads).mono ?_
    rintro e w5 ⟨rfl, hB5⟩
    have hS5 := (hS3.below hB5).alloc (.cells (row 16 (b8 (dec (words N g) (rnd N) (enc (words N g) (rnd N) b)))) 33)
    have hd5 := Blk.fresh w5 33 (row 16 (b8 (dec (words N g) (rnd N) (enc (words N g) (rnd N) b))))
    clear hS3 hB5 hc3
    go_wp2_with (first | (with_reducible refine wpl_alloc rfl 33 rfl _ z16 ?_) | (with_reducible refine wpl_store_new rfl 33 _ _ rfl w5 _ 16 _ rfl rfl 33 i16 (row_size _ _) ?_) | (with_reducible refine wpl_load rfl 33 _ rfl _ rfl 33 _ hS5.blk 16 5 Tryd.underlying33 (i16' _) ?_))
    generalize w5.alloc (.cells (row 16 (b8 (dec (words N g) (rnd N) (enc (words N g) (rnd N) b)))) 33) = w6 at *
    refine (dec_any A2 N c2 HK.out g _ _ Hbyt.out Hb.out hS5.reads).mono ?_
    rintro e w7 ⟨rfl, hB7⟩
    have hd7 := (hd5.below hB7 hd5.lt).alloc (.cells (row 16 (b8 (dec (words N g) (rnd N) b))) 33)
    have hS7 := (hS5.below hB7).alloc (.cells (row 16 (b8 (dec (words N g) (rnd N) b))) 33)
    have hx7 := Blk.fresh w7 33 (row 16 (b8 (dec (words N g) (rnd N) b)))
    clear hS5 hB7 hd5
    go_wp2_with (first | (with_reducible refine wpl_alloc rfl 33 rfl _ z16 ?_) | (with_reducible refine wpl_store_new rfl 33 _ _ rfl w7 _ 16 _ rfl rfl 33 i16 (row_size _ _) ?_) | (with_reducible refine wpl_load rfl 33 _ rfl _ rfl 33 _ hx7 16 5 Tryd.underlying33 (i16' _) ?_))
    generalize w7.alloc (.cells (row 16 (b8 (dec (words N g) (rnd N) b))) 33) = w8 at *
    refine (enc_any A2 N c2 HK.out g (dec (words N g) (rnd N) b) _ Hbyt.out (dec_by Hw.out Hn.out Hb.out) hS7.reads).mono ?_
    rintro e w9 ⟨rfl, hB9⟩
    have hd9 := (hd7.below hB9 hd7.lt).alloc (.cells (row 16 (b8 (enc (words N g) (rnd N) (dec (words N g) (rnd N) b)))) 33)
    have hS9 := (hS7.below hB9).alloc (.cells (row 16 (b8 (enc (words N g) (rnd N) (dec (words N g) (rnd N) b)))) 33)
    have hy9 := Blk.fresh w9 33 (row 16 (b8 (enc (words N g) (rnd N) (dec (words N g) (rnd N) b))))
    have E1 := hid (eqB_true (dec_enc Hw.out Hn.out Hb.out))
    have E2 := hid (eqB_true (enc_dec Hw.out Hn.out Hb.out))
    clear hS7 hB9 hd7 hx7
    go_wp2_with (first
      | (with_reducible refine wpl_alloc rfl 33 rfl _ z16 ?_)
      | (with_reducible refine wpl_store_new rfl 33 _ _ rfl w9 _ 16 _ rfl rfl 33 i16 (row_size _ _) ?_)
      | ((with_reducible refine wpg_val ?_ _ (exec_load 33 _ rfl _ rfl 33 16 _ hd9 5 Tryd.underlying33 i16) ?_); exact rfl)
      | ((with_reducible refine wpg_val ?_ _ (exec_load 33 _ rfl _ rfl 33 16 _ hS9.blk 5 Tryd.underlying33 i16) ?_); exact rfl)
      | ((with_reducible refine wpg_val ?_ _ (exec_load 33 _ rfl _ rfl 33 16 _ hy9 5 Tryd.underlying33 i16) ?_); exact rfl)
      | ((with_reducible refine wpg_val ?_ _ (exec_eqT 33 _ _ _ rfl 16 _ _ rfl rfl true E1.out 5 Tryd.underlying33 Tryd.underlying5 i8 eq33) ?_); exact rfl)
      | ((with_reducible refine wpg_val ?_ _ (exec_eqT 33 _ _ _ rfl 16 _ _ rfl rfl true E2.out 5 Tryd.underlying33 Tryd.underlying5 i8 eq33) ?_); exact rfl))
    go_ret
    exact ⟨rfl, hS9.bel⟩
end Go.Proofs.YtdmeeopfdmjmlaaDoor.Aes
