/-
  The walk of lockboxlaw02.AesApart: it returns true.
-/
import Derived.Test.YtdmeeopfdmjmlaaDoorLaw02
namespace Go.Proofs.YtdmeeopfdmjmlaaDoor.Aes
open Go.ChangeShapes Go.WideShapes Go.ChangeAt Go.RowKit Mem
theorem decTo_ext {ws : Nat → Nat} {N : Nat} {b b' : Nat → Nat} (hb : Eq16 b b') (j : Nat) : Eq16 (decTo ws N b j) (decTo ws N b' j) := by
  induction j with
  | zero => exact hb
  | succ j ih =>
    refine each_ext Gf.unbox (rowsB_ext ?_)
    by_cases h : N - j < N
    · rw [if_pos h, if_pos h]; exact mix_ext fD (rk_ext ws _ ih)
    · rw [if_neg h, if_neg h]; exact rk_ext ws _ ih
theorem dec_ext {ws : Nat → Nat} {N : Nat} {b b' : Nat → Nat} (hb : Eq16 b b') : Eq16 (dec ws N b) (dec ws N b') := rk_ext ws 0 (decTo_ext hb N)
theorem enc_eqB {ws : Nat → Nat} {N n : Nat} (hw : ∀ i, i < n → ws i < 256) (hn : 16 * N + 16 ≤ n) {a b : Nat → Nat} (ha : By16 a) (hb : By16 b) : eqB 16 (enc ws N a) (enc ws N b) = eqB 16 a b := by
  rw [Bool.eq_iff_iff, eqB_iff, eqB_iff]
  constructor
  · intro h
    have h1 := (dec_enc hw hn ha).symm.trans ((dec_ext (show Eq16 (enc ws N a) (enc ws N b) from h)).trans (dec_enc hw hn hb))
    exact h1
  · intro h
    exact encTo_ext (n := n) (fun _ _ => rfl) hn h N (Nat.le_refl _)
theorem dec_eqB {ws : Nat → Nat} {N n : Nat} (hw : ∀ i, i < n → ws i < 256) (hn : 16 * N + 16 ≤ n) {a b : Nat → Nat} (ha : By16 a) (hb : By16 b) : eqB 16 (dec ws N a) (dec ws N b) = eqB 16 a b := by
  rw [Bool.eq_iff_iff, eqB_iff, eqB_iff]
  constructor
  · intro h
    have h2 : Eq16 (enc ws N (dec ws N a)) (enc ws N (dec ws N b)) := encTo_ext (n := n) (fun _ _ => rfl) hn h N (Nat.le_refl _)
    exact (enc_dec hw hn ha).symm.trans (h2.trans (enc_dec hw hn hb))
  · intro h
    exact dec_ext h
set_option maxRecDepth 100000 in
set_option maxHeartbeats 4000000 in
theorem apart_walk (A : Option Addr) (L c : Nat) (f : Nat → Nat) (wh : Nat) (b b2 : Nat → Nat) (w : World) (hg : As.Laid w) (hR : Reads w w.heap.size A L f) (hf : ∀ i, i < L → f i < 256) (hwh : wh < 256) (hb : By16 b) (hb2 : By16 b2) :
    Calls Tryd.prog 7 #[.slice A L c, .int .u8 wh, .agg (row 16 (b8 b)), .agg (row 16 (b8 b2))] w fun e w' => e = .returned (.bool true) ∧ Below w.heap.size w w' := by
  have Hf := hid hf
  have Hb := hid hb
  have Hb2 := hid hb2
  have hB0 : Below w.heap.size w ((w.alloc (.cells (row 16 (b8 b)) 33)).alloc (.cells (row 16 (b8 b2)) 33)) := ((Below.refl _ _).alloc (Nat.le_refl _) _).alloc (by simp) _
  have hb0 := (Blk.fresh w 33 (row 16 (b8 b))).alloc (.cells (row 16 (b8 b2)) 33)
  have hc0 := two_new w b b2 16 33
  have hg0 := hid (hg.below hB0)
  have hR0 := (hR.below hB0).more hB0.size
  clear hf hb hb2 hg hR
  by_cases hL : L = 0 ∨ 100 < L
  · rcases hL with rfl | hL
    · go_enter Tryd.func7, Tryd.ntmps7
      go_wp2_with fail
      refine (awake_any _ hg0.out).mono ?_
      rintro e w1 ⟨rfl, hB1⟩
      have hg1 := hid (hg0.out.below hB1)
      have hB01 := hB0.trans (hB1.mono hB0.size)
      clear hB1 hB0 hb0 hc0 hR0 hg0
      go_wp2_with fail
      refine (awake_any _ hg1.out).mono ?_
      rintro e w2 ⟨rfl, hB2⟩
      go_wp2_with fail
      go_ret
      exact ⟨rfl, hB01.trans (hB2.mono hB01.size)⟩
    · have t0 : ((L : Int) == 0) = false := by simp; omega
      go_enter Tryd.func7, Tryd.ntmps7
      go_wp2_with fail
      refine (awake_any _ hg0.out).mono ?_
      rintro e w1 ⟨rfl, hB1⟩
      have hg1 := hid (hg0.out.below hB1)
      have hB01 := hB0.trans (hB1.mono hB0.size)
      clear hB1 hB0 hb0 hc0 hR0 hg0
      go_wp2_with fail
      refine (awake_any _ hg1.out).mono ?_
      rintro e w2 ⟨rfl, hB2⟩
      go_wp2_with fail
      go_ret
      exact ⟨rfl, hB01.trans (hB2.mono hB01.size)⟩
  · have hL0 : 0 < L := by omega
    have hL1 : L ≤ 100 := by omega
    have t0 : ((L : Int) == 0) = false := by simp; omega
    have HK := hid (kn_key L (wh % 3) hL0 (by omega))
    have Hbyt := hid (mod_by hL0 Hf.out (kn L (wh % 3)))
    have HN := hid (rnd_bound HK.out)
    have Hw : Hid (ByN (wsz (kn L (wh % 3))) (words (kn L (wh % 3)) (fun i => f (i % L)))) := hid (fun i _ => ex_lt (kn L (wh % 3)) (fun i => f (i % L)) (more (kn L (wh % 3))) Hbyt.out i)
    have Hn : Hid (16 * rnd (kn L (wh % 3)) + 16 ≤ wsz (kn L (wh % 3))) := hid (by rw [wsz_eq]; omega)
    clear hL
    go_enter Tryd.func7, Tryd.ntmps7
    go_wp2_with fail
    refine (awake_any _ hg0.out).mono ?_
    rintro e w1 ⟨rfl, hB1⟩
    have hR1 := (hR0.below hB1).more hB1.size
    have hb1 := hb0.below hB1 hb0.lt
    have hc1 := hc0.below hB1 hc0.lt
    have hB01 := hB0.trans (hB1.mono hB0.size)
    clear hB1 hB0 hb0 hc0 hR0 hg0
    go_wp2_with fail
    refine (short' A L c (wh % 3) _ (by omega) f _ hL1 hR1).mono ?_
    rintro e w2 ⟨A2, c2, rfl, hc2, hR2, hB2⟩
    have hS : Lw w w2 w.heap.size b A2 (kn L (wh % 3)) (fun i => f (i % L)) := ⟨hb1.below hB2 hb1.lt, hR2, hB01.trans (hB2.mono hB01.size)⟩
    have hC := hc1.below hB2 hc1.lt
    clear hR1 hb1 hc1 hB01 hR2 hB2
    generalize hNe : kn L (wh % 3) = N at *
    clear hNe
    generalize hge : (fun i => f (i % L)) = g at *
    clear hge
    have E1 := hid (enc_eqB Hw.out Hn.out Hb.out Hb2.out)
    have E2 := hid (dec_eqB Hw.out Hn.out Hb.out Hb2.out)
    go_wp2_with ((with_reducible refine wpl_load rfl 33 _ rfl _ rfl 33 _ hS.blk 16 5 Tryd.underlying33 (i16' _) ?_))
    refine (enc_any A2 N c2 HK.out g b _ Hbyt.out Hb.out hS.reads).mono ?_
    rintro e v1 ⟨rfl, hBk⟩
    have hS' := (hS.below hBk).alloc (.cells (row 16 (b8 (enc (words N g) (rnd N) b))) 33)
    have hC' := (hC.below hBk hC.lt).alloc (.cells (row 16 (b8 (enc (words N g) (rnd N) b))) 33)
    have hr1 := Blk.fresh v1 33 (row 16 (b8 (enc (words N g) (rnd N) b)))
    clear hS hC hBk 
    have hS := hS'
    have hC := hC'
    clear hS' hC' 
    go_wp2_with (first | (with_reducible refine wpl_alloc rfl 33 rfl _ z16 ?_) | (with_reducible refine wpl_store_new rfl 33 _ _ rfl v1 _ 16 _ rfl rfl 33 i16 (row_size _ _) ?_) | (with_reducible refine wpl_load rfl 33 _ rfl _ rfl 33 _ hC 16 5 Tryd.underlying33 (i16' _) ?_))
    generalize v1.alloc (.cells (row 16 (b8 (enc (words N g) (rnd N) b))) 33) = u1 at *
    refine (enc_any A2 N c2 HK.out g b2 _ Hbyt.out Hb2.out hS.reads).mono ?_
    rintro e v2 ⟨rfl, hBk⟩
    have hS' := (hS.below hBk).alloc (.cells (row 16 (b8 (enc (words N g) (rnd N) b2))) 33)
    have hC' := (hC.below hBk hC.lt).alloc (.cells (row 16 (b8 (enc (words N g) (rnd N) b2))) 33)
    have hr2 := Blk.fresh v2 33 (row 16 (b8 (enc (words N g) (rnd N) b2)))
    have hr1' := (hr1.below hBk hr1.lt).alloc (.cells (row 16 (b8 (enc (words N g) (rnd N) b2))) 33)
    clear hS hC hBk hr1
    have hS := hS'
    have hC := hC'
    have hr1 := hr1'
    clear hS' hC' hr1'
    go_wp2_with (first | (with_reducible refine wpl_alloc rfl 33 rfl _ z16 ?_) | (with_reducible refine wpl_store_new rfl 33 _ _ rfl v2 _ 16 _ rfl rfl 33 i16 (row_size _ _) ?_) | (with_reducible refine wpl_load rfl 33 _ rfl _ rfl 33 _ hS.blk 16 5 Tryd.underlying33 (i16' _) ?_))
    generalize v2.alloc (.cells (row 16 (b8 (enc (words N g) (rnd N) b2))) 33) = u2 at *
    refine (dec_any A2 N c2 HK.out g b _ Hbyt.out Hb.out hS.reads).mono ?_
    rintro e v3 ⟨rfl, hBk⟩
    have hS' := (hS.below hBk).alloc (.cells (row 16 (b8 (dec (words N g) (rnd N) b))) 33)
    have hC' := (hC.below hBk hC.lt).alloc (.cells (row 16 (b8 (dec (words N g) (rnd N) b))) 33)
    have hr3 := Blk.fresh v3 33 (row 16 (b8 (dec (words N g) (rnd N) b)))
    have hr1' := (hr1.below hBk hr1.lt).alloc (.cells (row 16 (b8 (dec (words N g) (rnd N) b))) 33)
    have hr2' := (hr2.below hBk hr2.lt).alloc (.cells (row 16 (b8 (dec (words N g) (rnd N) b))) 33)
    clear hS hC hBk hr1 hr2
    have hS := hS'
    have hC := hC'
    have hr1 := hr1'
    have hr2 := hr2'
    clear hS' hC' hr1' hr2'
    go_wp2_with (first | (with_reducible refine wpl_alloc rfl 33 rfl _ z16 ?_) | (with_reducible refine wpl_store_new rfl 33 _ _ rfl v3 _ 16 _ rfl rfl 33 i16 (row_size _ _) ?_) | (with_reducible refine wpl_load rfl 33 _ rfl _ rfl 33 _ hC 16 5 Tryd.underlying33 (i16' _) ?_))
    generalize v3.alloc (.cells (row 16 (b8 (dec (words N g) (rnd N) b))) 33) = u3 at *
    refine (dec_any A2 N c2 HK.out g b2 _ Hbyt.out Hb2.out hS.reads).mono ?_
    rintro e v4 ⟨rfl, hBk⟩
    have hS' := (hS.below hBk).alloc (.cells (row 16 (b8 (dec (words N g) (rnd N) b2))) 33)
    have hC' := (hC.below hBk hC.lt).alloc (.cells (row 16 (b8 (dec (words N g) (rnd N) b2))) 33)
    have hr4 := Blk.fresh v4 33 (row 16 (b8 (dec (words N g) (rnd N) b2)))
    have hr1' := (hr1.below hBk hr1.lt).alloc (.cells (row 16 (b8 (dec (words N g) (rnd N) b2))) 33)
    have hr2' := (hr2.below hBk hr2.lt).alloc (.cells (row 16 (b8 (dec (words N g) (rnd N) b2))) 33)
    have hr3' := (hr3.below hBk hr3.lt).alloc (.cells (row 16 (b8 (dec (words N g) (rnd N) b2))) 33)
    clear hS hC hBk hr1 hr2 hr3
    have hS := hS'
    have hC := hC'
    have hr1 := hr1'
    have hr2 := hr2'
    have hr3 := hr3'
    clear hS' hC' hr1' hr2' hr3'
    go_wp2_with (first | (with_reducible refine wpl_alloc rfl 33 rfl _ z16 ?_) | (with_reducible refine wpl_store_new rfl 33 _ _ rfl v4 _ 16 _ rfl rfl 33 i16 (row_size _ _) ?_))
    generalize v4.alloc (.cells (row 16 (b8 (dec (words N g) (rnd N) b2))) 33) = u4 at *
    generalize hre : eqB 16 b b2 = r at *
    refine wp_region_still_lit (by kernel_rfl) (by kernel_rfl) ?_
    change wpStill _ _ u4.drew _ _ _
    have hS9 : Lw w u4.drew w.heap.size b A2 N g := hS.below (Below.refl _ _).drew
    have hC9 : Blk u4.drew (w.heap.size + 1) 33 (row 16 (b8 b2)) := hC
    have hr19 : Blk u4.drew v1.heap.size 33 _ := hr1
    have hr29 : Blk u4.drew v2.heap.size 33 _ := hr2
    have hr39 : Blk u4.drew v3.heap.size 33 _ := hr3
    have hr49 : Blk u4.drew v4.heap.size 33 _ := hr4
    have hBz := hS.bel
    clear hS hC hr1 hr2 hr3 hr4
    generalize u4.drew = u5 at *
    iterate 15 still_step
    with_reducible refine wpsg_val ?_ _ (exec_load 33 _ rfl _ rfl 33 16 _ hr19 5 Tryd.underlying33 i16) ?_
    exact rfl
    (try simp only [Act.put, List.setIfInBounds_toArray, List.set_cons_zero, List.set_cons_succ])
    with_reducible refine wpsg_val ?_ _ (exec_load 33 _ rfl _ rfl 33 16 _ hr29 5 Tryd.underlying33 i16) ?_
    exact rfl
    (try simp only [Act.put, List.setIfInBounds_toArray, List.set_cons_zero, List.set_cons_succ])
    with_reducible refine wpsg_val ?_ _ (exec_eqT 33 _ _ _ rfl 16 _ _ rfl rfl r E1.out 5 Tryd.underlying33 Tryd.underlying5 i8 eq33) ?_
    exact rfl
    (try simp only [Act.put, List.setIfInBounds_toArray, List.set_cons_zero, List.set_cons_succ])
    with_reducible refine wpsg_val ?_ _ (exec_load 33 _ rfl _ rfl 33 16 _ hS9.blk 5 Tryd.underlying33 i16) ?_
    exact rfl
    (try simp only [Act.put, List.setIfInBounds_toArray, List.set_cons_zero, List.set_cons_succ])
    with_reducible refine wpsg_val ?_ _ (exec_load 33 _ rfl _ rfl 33 16 _ hC9 5 Tryd.underlying33 i16) ?_
    exact rfl
    (try simp only [Act.put, List.setIfInBounds_toArray, List.set_cons_zero, List.set_cons_succ])
    with_reducible refine wpsg_val ?_ _ (exec_eqT 33 _ _ _ rfl 16 _ _ rfl rfl r hre 5 Tryd.underlying33 Tryd.underlying5 i8 eq33) ?_
    exact rfl
    (try simp only [Act.put, List.setIfInBounds_toArray, List.set_cons_zero, List.set_cons_succ])
    iterate 3 still_step
    with_reducible refine wpsg_val ?_ _ (exec_load 33 _ rfl _ rfl 33 16 _ hr39 5 Tryd.underlying33 i16) ?_
    exact rfl
    (try simp only [Act.put, List.setIfInBounds_toArray, List.set_cons_zero, List.set_cons_succ])
    with_reducible refine wpsg_val ?_ _ (exec_load 33 _ rfl _ rfl 33 16 _ hr49 5 Tryd.underlying33 i16) ?_
    exact rfl
    (try simp only [Act.put, List.setIfInBounds_toArray, List.set_cons_zero, List.set_cons_succ])
    with_reducible refine wpsg_val ?_ _ (exec_eqT 33 _ _ _ rfl 16 _ _ rfl rfl r E2.out 5 Tryd.underlying33 Tryd.underlying5 i8 eq33) ?_
    exact rfl
    (try simp only [Act.put, List.setIfInBounds_toArray, List.set_cons_zero, List.set_cons_succ])
    with_reducible refine wpsg_val ?_ _ (exec_load 33 _ rfl _ rfl 33 16 _ hS9.blk 5 Tryd.underlying33 i16) ?_
    exact rfl
    (try simp only [Act.put, List.setIfInBounds_toArray, List.set_cons_zero, List.set_cons_succ])
    with_reducible refine wpsg_val ?_ _ (exec_load 33 _ rfl _ rfl 33 16 _ hC9 5 Tryd.underlying33 i16) ?_
    exact rfl
    (try simp only [Act.put, List.setIfInBounds_toArray, List.set_cons_zero, List.set_cons_succ])
    with_reducible refine wpsg_val ?_ _ (exec_eqT 33 _ _ _ rfl 16 _ _ rfl rfl r hre 5 Tryd.underlying33 Tryd.underlying5 i8 eq33) ?_
    exact rfl
    (try simp only [Act.put, List.setIfInBounds_toArray, List.set_cons_zero, List.set_cons_succ])
    iterate 3 still_step
    refine wpStill_nil ?_
    go_wp2_with fail
    go_ret
    exact ⟨rfl, hBz.drew⟩
end Go.Proofs.YtdmeeopfdmjmlaaDoor.Aes
