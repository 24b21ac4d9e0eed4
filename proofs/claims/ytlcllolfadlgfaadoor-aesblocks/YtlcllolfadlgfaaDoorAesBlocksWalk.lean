/-
  The walk of lockboxlaw02.AesBlocks: it returns true.
-/
import Derived.Test.YtlcllolfadlgfaaDoorLaw02
import Derived.Test.YtlcllolfadlgfaaDoorRef02E
namespace Go.Proofs.YtlcllolfadlgfaaDoor.Aes
open Go.ChangeShapes Go.WideShapes Go.ChangeAt Go.RowKit Mem
theorem key_or2 (L : Nat) : IsKey L ∨ rnd L = 0 := by
  unfold IsKey rnd
  by_cases h1 : L = 32
  · exact .inl (by omega)
  · by_cases h2 : L = 24
    · exact .inl (by omega)
    · by_cases h3 : L = 16
      · exact .inl (by omega)
      · exact .inr (by rw [if_neg h1, if_neg h2, if_neg h3])
set_option maxRecDepth 100000 in
set_option maxHeartbeats 4000000 in
theorem blocks_walk (A : Option Addr) (L c : Nat) (f : Nat → Nat) (wh : Nat) (b : Nat → Nat) (w : World) (hg : As.Laid w) (hR : Reads w w.heap.size A L f) (hf : ∀ i, i < L → f i < 256) (_hwh : wh < 256) (hb : By16 b) :
    Calls Tryd.prog 3 #[.slice A L c, .int .u8 wh, .agg (row 16 (b8 b))] w fun e w' => e = .returned (.bool true) ∧ Below w.heap.size w w' := by
  have Hf := hid hf
  have Hb := hid hb
  have hB0 : Below w.heap.size w (w.alloc (.cells (row 16 (b8 b)) 23)) := (Below.refl _ _).alloc (Nat.le_refl _) _
  have hb0 := Blk.fresh w 23 (row 16 (b8 b))
  have hg0 := hid (hg.below hB0)
  have hR0 := (hR.below hB0).more hB0.size
  clear hf hb hg hR
  by_cases hL : 100 < L
  · go_enter Tryd.func3, Tryd.ntmps3
    go_wp2_with fail
    refine (awake_any _ hg0.out).mono ?_
    rintro e w1 ⟨rfl, hB1⟩
    have hg1 := hid (hg0.out.below hB1)
    have hB01 := hB0.trans (hB1.mono hB0.size)
    clear hB1 hB0 hb0 hR0 hg0
    go_wp2_with fail
    refine (awake_any _ hg1.out).mono ?_
    rintro e w2 ⟨rfl, hB2⟩
    go_wp2_with fail
    go_ret
    exact ⟨rfl, hB01.trans (hB2.mono hB01.size)⟩
  · have hL1 : L ≤ 100 := by omega
    have t100 : decide ((100 : Int) < (L : Int)) = false := by simp; omega
    have Hbyt : Hid (ByN (kn L wh) (fun i => f (i % L))) := hid (by
      by_cases h0 : L = 0
      · intro i hi; unfold kn at hi; rw [if_pos h0] at hi; omega
      · exact mod_by (by omega) Hf.out _)
    clear hL
    go_enter Tryd.func3, Tryd.ntmps3
    go_wp2_with fail
    refine (awake_any _ hg0.out).mono ?_
    rintro e w1 ⟨rfl, hB1⟩
    have hR1 := (hR0.below hB1).more hB1.size
    have hb1 := hb0.below hB1 hb0.lt
    have hB01 := hB0.trans (hB1.mono hB0.size)
    have hg1 := hid (hg0.out.below hB1)
    clear hB1 hB0 hb0 hR0 hg0
    go_wp2_with fail
    refine (short_any A L c wh f _ hL1 hR1).mono ?_
    rintro e w2 ⟨A2, c2, rfl, hc2, hR2, hB2⟩
    have hg2 := hid (hg1.out.below hB2)
    have hS : Lw w w2 w.heap.size b A2 (kn L wh) (fun i => f (i % L)) := ⟨hb1.below hB2 hb1.lt, hR2, hB01.trans (hB2.mono hB01.size)⟩
    clear hR1 hb1 hB01 hR2 hB2 hg1
    generalize hNe : kn L wh = N at *
    clear hNe
    generalize hge : (fun i => f (i % L)) = g at *
    clear hge
    go_wp2_with (with_reducible refine wpl_load rfl 23 _ rfl _ rfl 23 _ hS.blk 16 5 Tryd.underlying23 (i16' _) ?_)
    rcases key_or2 N with hK | hK
    · have HK := hid hK
      have HN := hid (rnd_bound hK)
      have Hw : Hid (ByN (wsz N) (words N g)) := hid (fun i _ => ex_lt N g (more N) Hbyt.out i)
      have Hn : Hid (16 * rnd N + 16 ≤ wsz N) := hid (by rw [wsz_eq]; omega)
      have tn : ((wsz N : Int) == 0) = false := by
        have : 0 < wsz N := by rw [wsz_eq]; omega
        simp; omega
      clear hK
      refine (enc_any A2 N c2 HK.out g b _ Hbyt.out Hb.out hS.reads).mono ?_
      rintro e w3 ⟨rfl, hB3⟩
      have hS3 := (hS.below hB3).alloc (.cells (row 16 (b8 (enc (words N g) (rnd N) b))) 23)
      have hc3 := Blk.fresh w3 23 (row 16 (b8 (enc (words N g) (rnd N) b)))
      clear hS hB3
      go_wp2_with (first | (with_reducible refine wpl_alloc rfl 23 rfl _ z16 ?_) | (with_reducible refine wpl_store_new rfl 23 _ _ rfl w3 _ 16 _ rfl rfl 23 i16 (row_size _ _) ?_) | (with_reducible refine wpl_load rfl 23 _ rfl _ rfl 23 _ hS3.blk 16 5 Tryd.underlying23 (i16' _) ?_))
      generalize w3.alloc (.cells (row 16 (b8 (enc (words N g) (rnd N) b))) 23) = w4 at *
      generalize w3.heap.size = gc at *
      refine (dec_any A2 N c2 HK.out g b _ Hbyt.out Hb.out hS3.reads).mono ?_
      rintro e w5 ⟨rfl, hB5⟩
      have hS5 := (hS3.below hB5).alloc (.cells (row 16 (b8 (dec (words N g) (rnd N) b))) 23)
      have hc5 := (hc3.below hB5 hc3.lt).alloc (.cells (row 16 (b8 (dec (words N g) (rnd N) b))) 23)
      have hd5 := Blk.fresh w5 23 (row 16 (b8 (dec (words N g) (rnd N) b)))
      clear hS3 hB5 hc3
      go_wp2_with (first | (with_reducible refine wpl_alloc rfl 23 rfl _ z16 ?_) | (with_reducible refine wpl_store_new rfl 23 _ _ rfl w5 _ 16 _ rfl rfl 23 i16 (row_size _ _) ?_))
      generalize w5.alloc (.cells (row 16 (b8 (dec (words N g) (rnd N) b))) 23) = w6 at *
      generalize w5.heap.size = gd at *
      refine (rwords_any A2 N c2 HK.out g _ Hbyt.out hS5.reads).mono ?_
      rintro e w7 ⟨A7, c7, rfl, hc7, hR7, hB7⟩
      have hS7 := hS5.below hB7
      have hC7 := hc5.below hB7 hc5.lt
      have hD7 := hd5.below hB7 hd5.lt
      have E1 : Hid (eqB 16 (enc (words N g) (rnd N) b) (enc (words N g) (rnd N) b) = true) := hid (eqB_true fun _ _ => rfl)
      have E2 := hid (eqB_true (enc_dec Hw.out Hn.out Hb.out))
      have HD : Hid (By16 (dec (words N g) (rnd N) b)) := hid (dec_by Hw.out Hn.out Hb.out)
      clear hR7 hB7 hS5 hc5 hd5 hc7
      go_wp2_with fail
      refine wp_region_held_drew (S := fun W => Below w7.heap.size w7 W) (by kernel_rfl) (Below.refl _ _).drew (fun hS0 => ?_)
      refine wpAnyH_take (i := 0) (v := .nilIface) rfl (by kernel_rfl) (by kernel_rfl) (by kernel_rfl) (fun _ _ _ h => h) (Or.inl ⟨rfl, fun _ _ => exec_move _ rfl _ rfl⟩) hS0 ?_
      (try simp only [Act.put, List.getElem_toArray, List.getElem_cons_zero, List.setIfInBounds_toArray, List.set_cons_zero, List.set_cons_succ])
      refine wpAnyH_take (i := 1) (v := .bool true) rfl (by kernel_rfl) (by kernel_rfl) (by kernel_rfl) (fun _ _ _ h => h) (Or.inl ⟨rfl, fun W _ => by go_simp⟩) hS0 ?_
      (try simp only [Act.put, List.getElem_toArray, List.getElem_cons_zero, List.getElem_cons_succ, List.setIfInBounds_toArray, List.set_cons_zero, List.set_cons_succ])
      refine wpAnyH_take (i := 2) (v := .bool true) rfl (by kernel_rfl) (by kernel_rfl) (by kernel_rfl) (fun _ _ _ h => h) (Or.inl ⟨rfl, fun _ _ => exec_move _ rfl _ rfl⟩) hS0 ?_
      (try simp only [Act.put, List.getElem_toArray, List.getElem_cons_zero, List.getElem_cons_succ, List.setIfInBounds_toArray, List.set_cons_zero, List.set_cons_succ])
      refine wpAnyH_take (i := 3) (v := .nilIface) rfl (by kernel_rfl) (by kernel_rfl) (by kernel_rfl) (fun _ _ _ h => h) (Or.inl ⟨rfl, fun _ _ => exec_move _ rfl _ rfl⟩) hS0 ?_
      (try simp only [Act.put, List.getElem_toArray, List.getElem_cons_zero, List.getElem_cons_succ, List.setIfInBounds_toArray, List.set_cons_zero, List.set_cons_succ])
      refine wpAnyH_take (i := 4) (v := .bool true) rfl (by kernel_rfl) (by kernel_rfl) (by kernel_rfl) (fun _ _ _ h => h) (Or.inl ⟨rfl, fun W _ => by go_simp⟩) hS0 ?_
      (try simp only [Act.put, List.getElem_toArray, List.getElem_cons_zero, List.getElem_cons_succ, List.setIfInBounds_toArray, List.set_cons_zero, List.set_cons_succ])
      refine wpAnyH_take (i := 5) (v := .bool true) rfl (by kernel_rfl) (by kernel_rfl) (by kernel_rfl) (fun _ _ _ h => h) (Or.inl ⟨rfl, fun W _ => by go_simp⟩) hS0 ?_
      (try simp only [Act.put, List.getElem_toArray, List.getElem_cons_zero, List.getElem_cons_succ, List.setIfInBounds_toArray, List.set_cons_zero, List.set_cons_succ])
      refine wpAnyH_take (i := 6) (v := .bool true) rfl (by kernel_rfl) (by kernel_rfl) (by kernel_rfl) (fun _ _ _ h => h) (Or.inl ⟨rfl, fun _ _ => exec_move _ rfl _ rfl⟩) hS0 ?_
      (try simp only [Act.put, List.getElem_toArray, List.getElem_cons_zero, List.getElem_cons_succ, List.setIfInBounds_toArray, List.set_cons_zero, List.set_cons_succ])
      refine wpAnyH_take (i := 7) (v := .agg (row 16 (b8 (enc (words N g) (rnd N) b)))) rfl (by kernel_rfl) (by kernel_rfl) (by kernel_rfl) (fun _ _ _ h => h) (Or.inl ⟨rfl, fun W hW => exec_load 23 _ rfl _ rfl 23 16 _ (hC7.below hW hC7.lt) 5 Tryd.underlying23 i16⟩) hS0 ?_
      (try simp only [Act.put, List.getElem_toArray, List.getElem_cons_zero, List.getElem_cons_succ, List.setIfInBounds_toArray, List.set_cons_zero, List.set_cons_succ])
      refine wpAnyH_take (i := 8) (v := .slice A2 N c2) rfl (by kernel_rfl) (by kernel_rfl) (by kernel_rfl) (fun _ _ _ h => h) (Or.inl ⟨rfl, fun _ _ => exec_move _ rfl _ rfl⟩) hS0 ?_
      (try simp only [Act.put, List.getElem_toArray, List.getElem_cons_zero, List.getElem_cons_succ, List.setIfInBounds_toArray, List.set_cons_zero, List.set_cons_succ])
      refine wpAnyH_take (i := 9) (v := .agg (row 16 (b8 b))) rfl (by kernel_rfl) (by kernel_rfl) (by kernel_rfl) (fun _ _ _ h => h) (Or.inl ⟨rfl, fun W hW => exec_load 23 _ rfl _ rfl 23 16 _ (hS7.blk.below hW hS7.blk.lt) 5 Tryd.underlying23 i16⟩) hS0 ?_
      (try simp only [Act.put, List.getElem_toArray, List.getElem_cons_zero, List.getElem_cons_succ, List.setIfInBounds_toArray, List.set_cons_zero, List.set_cons_succ])
      refine wpAnyH_ready (rs := [10]) (by kernel_rfl) (by simp) (AllReadyH.cons rfl (fun K hK => ?_) AllReadyH.nil)
      (try simp only [Act.put, List.getElem_toArray, List.getElem_cons_zero, List.getElem_cons_succ, List.setIfInBounds_toArray, List.set_cons_zero, List.set_cons_succ])
      refine Eq.mpr (if_pos (by rfl)) ?_
      go_simp
      refine (renc_any A2 N c2 HK.out g b _ Hbyt.out Hb.out (((hS7.reads).below hS0).more hS0.size)).mono ?_
      rintro e wx ⟨rfl, hBx⟩
      refine hK.out _ _ (hS0.trans (hBx.mono hS0.size)) (fun hS1 => ?_)
      (try simp only [Act.put, List.getElem_toArray, List.getElem_cons_zero, List.getElem_cons_succ, List.setIfInBounds_toArray, List.set_cons_zero, List.set_cons_succ])
      clear hK K
      refine wpAnyH_take (i := 11) (v := .bool true) rfl (by kernel_rfl) (by kernel_rfl) (by kernel_rfl) (fun _ _ _ h => h) (Or.inl ⟨rfl, fun _ _ => exec_eqT 23 _ _ _ rfl 16 _ _ rfl rfl true E1.out 5 Tryd.underlying23 Tryd.underlying5 i8 eq33⟩) hS1 ?_
      (try simp only [Act.put, List.getElem_toArray, List.getElem_cons_zero, List.getElem_cons_succ, List.setIfInBounds_toArray, List.set_cons_zero, List.set_cons_succ])
      refine wpAnyH_take (i := 12) (v := .bool true) rfl (by kernel_rfl) (by kernel_rfl) (by kernel_rfl) (fun _ _ _ h => h) (Or.inl ⟨rfl, fun W _ => by go_simp⟩) hS1 ?_
      (try simp only [Act.put, List.getElem_toArray, List.getElem_cons_zero, List.getElem_cons_succ, List.setIfInBounds_toArray, List.set_cons_zero, List.set_cons_succ])
      refine wpAnyH_take (i := 13) (v := .bool true) rfl (by kernel_rfl) (by kernel_rfl) (by kernel_rfl) (fun _ _ _ h => h) (Or.inl ⟨rfl, fun _ _ => exec_move _ rfl _ rfl⟩) hS1 ?_
      (try simp only [Act.put, List.getElem_toArray, List.getElem_cons_zero, List.getElem_cons_succ, List.setIfInBounds_toArray, List.set_cons_zero, List.set_cons_succ])
      refine wpAnyH_take (i := 14) (v := .slice A2 N c2) rfl (by kernel_rfl) (by kernel_rfl) (by kernel_rfl) (fun _ _ _ h => h) (Or.inl ⟨rfl, fun _ _ => exec_move _ rfl _ rfl⟩) hS1 ?_
      (try simp only [Act.put, List.getElem_toArray, List.getElem_cons_zero, List.getElem_cons_succ, List.setIfInBounds_toArray, List.set_cons_zero, List.set_cons_succ])
      refine wpAnyH_take (i := 15) (v := .agg (row 16 (b8 (dec (words N g) (rnd N) b)))) rfl (by kernel_rfl) (by kernel_rfl) (by kernel_rfl) (fun _ _ _ h => h) (Or.inl ⟨rfl, fun W hW => exec_load 23 _ rfl _ rfl 23 16 _ (hD7.below hW hD7.lt) 5 Tryd.underlying23 i16⟩) hS1 ?_
      (try simp only [Act.put, List.getElem_toArray, List.getElem_cons_zero, List.getElem_cons_succ, List.setIfInBounds_toArray, List.set_cons_zero, List.set_cons_succ])
      refine wpAnyH_take (i := 17) (v := .agg (row 16 (b8 b))) rfl (by kernel_rfl) (by kernel_rfl) (by kernel_rfl) (fun _ _ _ h => h) (Or.inl ⟨rfl, fun W hW => exec_load 23 _ rfl _ rfl 23 16 _ (hS7.blk.below hW hS7.blk.lt) 5 Tryd.underlying23 i16⟩) hS1 ?_
      (try simp only [Act.put, List.getElem_toArray, List.getElem_cons_zero, List.getElem_cons_succ, List.setIfInBounds_toArray, List.set_cons_zero, List.set_cons_succ])
      refine wpAnyH_ready (rs := [16]) (by kernel_rfl) (by simp) (AllReadyH.cons rfl (fun K hK => ?_) AllReadyH.nil)
      (try simp only [Act.put, List.getElem_toArray, List.getElem_cons_zero, List.getElem_cons_succ, List.setIfInBounds_toArray, List.set_cons_zero, List.set_cons_succ])
      refine Eq.mpr (if_pos (by rfl)) ?_
      go_simp
      refine (renc_any A2 N c2 HK.out g _ _ Hbyt.out HD.out (((hS7.reads).below hS1).more hS1.size)).mono ?_
      rintro e wy ⟨rfl, hBy⟩
      refine hK.out _ _ (hS1.trans (hBy.mono hS1.size)) (fun hS2 => ?_)
      (try simp only [Act.put, List.getElem_toArray, List.getElem_cons_zero, List.getElem_cons_succ, List.setIfInBounds_toArray, List.set_cons_zero, List.set_cons_succ])
      clear hK K
      refine wpAnyH_take (i := 18) (v := .bool true) rfl (by kernel_rfl) (by kernel_rfl) (by kernel_rfl) (fun _ _ _ h => h) (Or.inl ⟨rfl, fun _ _ => exec_eqT 23 _ _ _ rfl 16 _ _ rfl rfl true E2.out 5 Tryd.underlying23 Tryd.underlying5 i8 eq33⟩) hS2 ?_
      (try simp only [Act.put, List.getElem_toArray, List.getElem_cons_zero, List.getElem_cons_succ, List.setIfInBounds_toArray, List.set_cons_zero, List.set_cons_succ])
      refine wpAnyH_take (i := 19) (v := .bool true) rfl (by kernel_rfl) (by kernel_rfl) (by kernel_rfl) (fun _ _ _ h => h) (Or.inl ⟨rfl, fun W _ => by go_simp⟩) hS2 ?_
      (try simp only [Act.put, List.getElem_toArray, List.getElem_cons_zero, List.getElem_cons_succ, List.setIfInBounds_toArray, List.set_cons_zero, List.set_cons_succ])
      refine wpAnyH_take (i := 20) (v := .bool true) rfl (by kernel_rfl) (by kernel_rfl) (by kernel_rfl) (fun _ _ _ h => h) (Or.inl ⟨rfl, fun _ _ => exec_assign _ rfl _ rfl⟩) hS2 ?_
      (try simp only [Act.put, List.getElem_toArray, List.getElem_cons_zero, List.getElem_cons_succ, List.setIfInBounds_toArray, List.set_cons_zero, List.set_cons_succ])
      refine wpAnyH_done (by kernel_rfl) ?_ _
      go_wp2_with fail
      go_ret
      exact ⟨rfl, hS7.bel.trans (hS2.mono hS7.bel.size)⟩
    · have HK := hid hK
      clear hK
      refine (enc_bad A2 N c2 HK.out b _).mono ?_
      rintro e w3 ⟨rfl, hB3⟩
      have hS3 := (hS.below hB3).alloc (.cells (row 16 (b8 fun _ => 0)) 23)
      have hc3 := Blk.fresh w3 23 (row 16 (b8 fun _ => 0))
      have hg3 := hid (hg2.out.below (hB3.trans ((Below.refl _ w3).alloc hB3.size (.cells (row 16 (b8 fun _ => 0)) 23))))
      clear hS hB3 hg2
      go_wp2_with (first | (with_reducible refine wpl_alloc rfl 23 rfl _ z16 ?_) | (with_reducible refine wpl_store_new rfl 23 _ _ rfl w3 _ 16 _ rfl rfl 23 i16 (row_size _ _) ?_) | (with_reducible refine wpl_load rfl 23 _ rfl _ rfl 23 _ hS3.blk 16 5 Tryd.underlying23 (i16' _) ?_))
      generalize w3.alloc (.cells (row 16 (b8 fun _ => 0)) 23) = w4 at *
      generalize w3.heap.size = gc at *
      refine (dec_bad A2 N c2 HK.out b _).mono ?_
      rintro e w5 ⟨rfl, hB5⟩
      have hS5 := (hS3.below hB5).alloc (.cells (row 16 (b8 fun _ => 0)) 23)
      have hc5 := (hc3.below hB5 hc3.lt).alloc (.cells (row 16 (b8 fun _ => 0)) 23)
      have hd5 := Blk.fresh w5 23 (row 16 (b8 fun _ => 0))
      have hg5 := hid (hg3.out.below (hB5.trans ((Below.refl _ w5).alloc hB5.size (.cells (row 16 (b8 fun _ => 0)) 23))))
      clear hS3 hB5 hc3 hg3
      go_wp2_with (first | (with_reducible refine wpl_alloc rfl 23 rfl _ z16 ?_) | (with_reducible refine wpl_store_new rfl 23 _ _ rfl w5 _ 16 _ rfl rfl 23 i16 (row_size _ _) ?_))
      generalize w5.alloc (.cells (row 16 (b8 fun _ => 0)) 23) = w6 at *
      generalize w5.heap.size = gd at *
      refine (rwords_bad A2 N c2 HK.out _).mono ?_
      rintro e w7 ⟨rfl, rfl⟩
      go_wp2_with fail
      refine (As.code_hit 2 _ hg5.out).mono ?_
      rintro e w8 ⟨rfl, hB8⟩
      have hS8 := hS5.below hB8
      have hc8 := hc5.below hB8 hc5.lt
      have hd8 := hd5.below hB8 hd5.lt
      have hg8 := hid (hg5.out.below hB8)
      clear hS5 hc5 hd5 hg5 hB8
      go_wp2_with fail
      refine (As.code_hit 2 _ hg8.out).mono ?_
      rintro e w9 ⟨rfl, hB9⟩
      have hS9 := hS8.below hB9
      have hc9 := hc8.below hB9 hc8.lt
      have hd9 := hd8.below hB9 hd8.lt
      have E0 : Hid (eqB 16 (fun _ => 0) (fun _ => 0) = true) := hid (eqB_true fun _ _ => rfl)
      clear hS8 hc8 hd8 hg8 hB9
      go_wp2_with (first
        | ((with_reducible refine wpg_val ?_ _ (exec_load 23 _ rfl _ rfl 23 16 _ hc9 5 Tryd.underlying23 i16) ?_); exact rfl)
        | ((with_reducible refine wpg_val ?_ _ (exec_load 23 _ rfl _ rfl 23 16 _ hd9 5 Tryd.underlying23 i16) ?_); exact rfl)
        | ((with_reducible refine wpg_val ?_ _ (exec_build0 23 rfl _ built16) ?_); exact rfl)
        | ((with_reducible refine wpg_val ?_ _ (exec_eqT 23 _ _ _ rfl 16 _ _ rfl rfl true E0.out 5 Tryd.underlying23 Tryd.underlying5 i8 eq33) ?_); exact rfl))
      go_ret
      exact ⟨rfl, hS9.bel⟩
end Go.Proofs.YtlcllolfadlgfaaDoor.Aes
