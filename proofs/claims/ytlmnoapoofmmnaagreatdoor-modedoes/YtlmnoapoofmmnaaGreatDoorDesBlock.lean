/-
 What des.Block returns: a contract over the loaded program.
-/
import Derived.Test.YtlmnoapoofmmnaaGreatDoorDesX
namespace Go.Proofs.YtlmnoapoofmmnaaGreatDoor.Des
open Go.ChangeShapes Go.WideShapes Go.ChangeAt Go.RowKit Mem
theorem or_32 (a b : Nat) (ha : a < 2 ^ 32) (hb : b < 2 ^ 32) : bits .or .u64 ((a : Int) * 4294967296) (b : Int) = ((a * 2 ^ 32 + b : Nat) : Int) := by
 rw [show (a : Int) * 4294967296 = ((a * 2 ^ 32 : Nat) : Int) by omega, u64_or_nat _ _ (by omega) (by omega), or_add 32 _ _ hb]
theorem rounds_lt (n r : Nat) : rounds n r < 281474976710656 := pk_lt _ _ _ _
set_option maxRecDepth 100000 in
set_option maxHeartbeats 4000000 in
theorem block_fwd (f b : Nat → Nat) (hf : By8 f) (hb : By8 b) (w : World) :
  Calls Tryz.prog 95 #[.agg (row 8 (b8 f)), .agg (row 8 (b8 b)), .bool false] w fun e w' => e = .returned (.agg (row 8 (b8 (des f b false)))) ∧ Below w.heap.size w w' := by
 have Hf := hid hf
 have Hb := hid hb
 clear hf hb
 have hb1 := ((Blk.fresh w 134 (row 8 (b8 f))).alloc (.cells (row 8 (b8 b)) 134)).alloc (.cells (row 8 (b8 fun _ => 0)) 134)
 have hb2 := (two_new w (.cells (row 8 (b8 f)) 134) (row 8 (b8 b)) 134).alloc (.cells (row 8 (b8 fun _ => 0)) 134)
 have hb3 : Blk (((w.alloc (.cells (row 8 (b8 f)) 134)).alloc (.cells (row 8 (b8 b)) 134)).alloc (.cells (row 8 (b8 fun _ => 0)) 134)) (w.heap.size + 2) 134 (row 8 (b8 fun _ => 0)) := by simpa using Blk.fresh ((w.alloc (.cells (row 8 (b8 f)) 134)).alloc (.cells (row 8 (b8 b)) 134)) 134 (row 8 (b8 fun _ => 0))
 have hB3 : Below w.heap.size w (((w.alloc (.cells (row 8 (b8 f)) 134)).alloc (.cells (row 8 (b8 b)) 134)).alloc (.cells (row 8 (b8 fun _ => 0)) 134)) := (((Below.refl _ _).alloc (Nat.le_refl _) _).alloc (by simp) _).alloc (by simp; omega) _
 go_enter Tryz.func95, Tryz.ntmps95
 go_wp2_with (first
  | (with_reducible refine wpl_alloc rfl 134 rfl _ z8 ?_)
  | (with_reducible refine wpl_load rfl 134 _ rfl _ rfl 134 _ hb1 8 5 Tryz.underlying134 (i8a' _) ?_))
 refine (rounds_any f Hf.out _).mono ?_
 rintro e w1 ⟨rfl, hB4⟩
 have hb2a := (hb2.below hB4 hb2.lt).alloc (.cells (row 16 (iv .u64 (rounds (num f 8)))) 169)
 have hb3a := (hb3.below hB4 hb3.lt).alloc (.cells (row 16 (iv .u64 (rounds (num f 8)))) 169)
 have hB4a := hB3.trans (hB4.mono hB3.size)
 have hB5a := hB4a.alloc hB4a.size (.cells (row 16 (iv .u64 (rounds (num f 8)))) 169)
 have hba := Blk.fresh w1 169 (row 16 (iv .u64 (rounds (num f 8))))
 have hg : w.heap.size + 2 < w1.heap.size := by have := hb3.lt; have := hB4.size; omega
 clear hb1 hb2 hb3 hB3 hB4 hB4a
 go_wp2_with (first
  | (with_reducible refine wpl_alloc rfl 169 rfl _ zR16 ?_)
  | (with_reducible refine wpl_store_newi rfl 169 _ _ rfl w1 _ 16 _ (fun _ => rfl) rfl rfl 169 iR16 (row_size _ _) ?_)
  | (with_reducible refine wpl_load rfl 134 _ rfl _ rfl 134 _ hb2a 8 5 Tryz.underlying134 (i8a' _) ?_))
 have hb7 := hba
 have hb2b := hb2a
 have hb3b := hb3a
 have hBb := hB5a
 clear hb2a hb3a hB5a hba
 generalize w1.alloc (.cells (row 16 (iv .u64 (rounds (num f 8)))) 169) = w2 at *
 generalize w1.heap.size = g at *
 have HK : Hid (∀ i, i < 16 → kk f false i = (rounds (num f 8)) i) := hid (fun _ _ => rfl)
 have HKl : Hid (∀ i, (rounds (num f 8)) i < 281474976710656) := hid (fun _ => rounds_lt _ _)
 generalize hKe : (rounds (num f 8)) = K at *
 clear hKe
 refine (num_any b Hb.out _).mono ?_
 rintro e w3 ⟨rfl, hB8⟩
 have hb7c := hb7.below hB8 hb7.lt
 have hb3c := hb3b.below hB8 hb3b.lt
 have hBc := hBb.trans (hB8.mono hBb.size)
 clear hb7 hb3b hBb hB8 hb2b
 go_wp2_with fail
 refine (pick_any _ 64 ip (by decide +kernel) _ 64 (num_lt64 Hb.out) (by omega) (by omega) (fun i hi => (ip_range i hi).2) _).mono ?_
 rintro e w4 ⟨rfl, q, rfl⟩
 have hb7d := hb7c.drewN q
 have hb3d := hb3c.drewN q
 have hBd := below_drewN hBc q
 clear hb7c hb3c hBc
 generalize w3.drewN q = w4 at *
 have hP : pk ip 64 (num b 8) 64 < 18446744073709551616 := pk_lt ip 64 (num b 8) 64
 have HX : Hid (∀ J : Nat → Nat, blk J (num b 8) = fin (fe J (pk ip 64 (num b 8) 64 / 4294967296) (pk ip 64 (num b 8) 64 % 4294967296) 16)) := hid (fun _ => rfl)
 generalize pk ip 64 (num b 8) 64 = B at *
 have HF := hid (fun i => fe_lt K (l := B / 4294967296) (r := B % 4294967296) (by omega) (by omega) i)
 go_wp2_with (with_reducible refine wpl_load rfl 169 _ rfl _ rfl 169 _ hb7d 16 168 Tryz.underlying169 (iR16' _) ?_)
 go_loopw [9, 10, 27] (fun l r i wr => ∃ (k : Nat), k ≤ 16 ∧ l = .int .u32 ((fe K (B / 4294967296) (B % 4294967296) k).1 : Nat) ∧ r = .int .u32 ((fe K (B / 4294967296) (B % 4294967296) k).2 : Nat) ∧ i = .int .i64 k ∧ Blk wr (w.heap.size + 2) 134 (row 8 (b8 fun _ => 0)) ∧ Below w.heap.size w wr) (fun _ _ i _ => 16 - (intOf i).toNat)
 case atStart => exact ⟨0, by omega, val_int (by rw [fe]; omega), val_int (by rw [fe]; omega), rfl, hb3d, hBd⟩
 case round =>
  clear hb7d hb3d hBd
  obtain ⟨k, hk, rfl, rfl, rfl, hb3, hB⟩ := hrel
  by_cases hlt : k < 16
  ·obtain ⟨hl1, hr1⟩ := HF.out k
   have hr1' : (fe K (B / 4294967296) (B % 4294967296) k).2 < 4294967296 := hr1
   have hkk := HKl.out k
   have hff := ff_lt (fe K (B / 4294967296) (B % 4294967296) k).2 (K k)
   have Hx := hid (u32_xor_nat _ _ hl1 hff)
   have H1 : Hid ((fe K (B / 4294967296) (B % 4294967296) (k + 1)).1 = (fe K (B / 4294967296) (B % 4294967296) k).2) := hid rfl
   have H2 : Hid ((fe K (B / 4294967296) (B % 4294967296) (k + 1)).2 = (fe K (B / 4294967296) (B % 4294967296) k).1 ^^^ ff (fe K (B / 4294967296) (B % 4294967296) k).2 (K k)) := hid rfl
   generalize (fe K (B / 4294967296) (B % 4294967296) k).1 = l1 at *
   generalize (fe K (B / 4294967296) (B % 4294967296) k).2 = r1 at *
   go_wp2_with (with_reducible refine wpl_index rfl 169 _ _ rfl _ rfl .i64 _ rfl k rfl 16 168 Tryz.underlying169 hlt .u64 Tryz.underlying168 iU64 _ (iv_get .u64 16 K k hlt) ?_)
   refine (mixed_any r1 (K k) hr1' hkk _).mono ?_
   rintro e w5 ⟨rfl, hB5⟩
   have hb3' := hb3.below hB5 hb3.lt
   have hB' := hB.trans (hB5.mono hB.size)
   clear hb3 hB hB5
   go_wp2_with fail
   exact ⟨⟨k + 1, by omega, val_int (by rw [H1.out]), val_int (by rw [Hx.out, H2.out]), val_int (by omega), hb3', hB'⟩, by simp [intOf]; omega⟩
  obtain ⟨hl1, hr1⟩ := HF.out k
  have Hk : Hid (k = 16) := hid (by omega)
  have Hor := hid (or_32 _ _ hr1 hl1)
  have Hfin : Hid (fin (fe K (B / 4294967296) (B % 4294967296) k) = up ip 64 ((fe K (B / 4294967296) (B % 4294967296) k).2 * 2 ^ 32 + (fe K (B / 4294967296) (B % 4294967296) k).1) 64) := hid rfl
  have Hdes : Hid (des f b false = byt (fin (fe K (B / 4294967296) (B % 4294967296) k))) := hid (by
   show byt (blk (kk f false) (num b 8)) = _
   rw [blk_ext _ HK.out, HX.out, Hk.out])
  have hfl : fin (fe K (B / 4294967296) (B % 4294967296) k) < 18446744073709551616 := up_lt _
  have hsum : (fe K (B / 4294967296) (B % 4294967296) k).2 * 2 ^ 32 + (fe K (B / 4294967296) (B % 4294967296) k).1 < 18446744073709551616 := by omega
  generalize (fe K (B / 4294967296) (B % 4294967296) k).1 = l1 at *
  generalize (fe K (B / 4294967296) (B % 4294967296) k).2 = r1 at *
  generalize fin (fe K (B / 4294967296) (B % 4294967296) k) = F at *
  go_wp2_with fail
  rw [Hor.out]
  refine (unpick_any _ (by decide +kernel) _ hsum _).mono ?_
  rintro e w5 ⟨rfl, q2, rfl⟩
  rw [← Hfin.out]
  have hb3' := hb3.drewN q2
  have hB' := below_drewN hB q2
  clear hb3 hB
  generalize wr.drewN q2 = w6 at *
  go_wp2_with fail
  refine (byt_any F hfl _).mono ?_
  rintro e w7 ⟨rfl, hB7⟩
  have hb4 := hb3'.below hB7 hb3'.lt
  have hB8 := hB'.trans (hB7.mono hB'.size)
  clear hb3' hB' hB7
  go_wp2_with (with_reducible refine wpl_store rfl 134 _ _ rfl _ _ rfl rfl 134 _ hb4 (i8a' _) (by simp [row_size]) (one_b8 _ _) ?_)
  exact ret_row Tryz.results95 rfl (w.heap.size + 2) rfl 134 8 _ (hb4.setRow _) 5 Tryz.underlying134 i8a ⟨by rw [Hdes.out], below_setRow' hB8 (by omega) _⟩
set_option maxRecDepth 100000 in
set_option maxHeartbeats 4000000 in
theorem block_bwd (f b : Nat → Nat) (hf : By8 f) (hb : By8 b) (w : World) :
  Calls Tryz.prog 95 #[.agg (row 8 (b8 f)), .agg (row 8 (b8 b)), .bool true] w fun e w' => e = .returned (.agg (row 8 (b8 (des f b true)))) ∧ Below w.heap.size w w' := by
 have Hf := hid hf
 have Hb := hid hb
 clear hf hb
 have hb1 := ((Blk.fresh w 134 (row 8 (b8 f))).alloc (.cells (row 8 (b8 b)) 134)).alloc (.cells (row 8 (b8 fun _ => 0)) 134)
 have hb2 := (two_new w (.cells (row 8 (b8 f)) 134) (row 8 (b8 b)) 134).alloc (.cells (row 8 (b8 fun _ => 0)) 134)
 have hb3 : Blk (((w.alloc (.cells (row 8 (b8 f)) 134)).alloc (.cells (row 8 (b8 b)) 134)).alloc (.cells (row 8 (b8 fun _ => 0)) 134)) (w.heap.size + 2) 134 (row 8 (b8 fun _ => 0)) := by simpa using Blk.fresh ((w.alloc (.cells (row 8 (b8 f)) 134)).alloc (.cells (row 8 (b8 b)) 134)) 134 (row 8 (b8 fun _ => 0))
 have hB3 : Below w.heap.size w (((w.alloc (.cells (row 8 (b8 f)) 134)).alloc (.cells (row 8 (b8 b)) 134)).alloc (.cells (row 8 (b8 fun _ => 0)) 134)) := (((Below.refl _ _).alloc (Nat.le_refl _) _).alloc (by simp) _).alloc (by simp; omega) _
 go_enter Tryz.func95, Tryz.ntmps95
 go_wp2_with (first
  | (with_reducible refine wpl_alloc rfl 134 rfl _ z8 ?_)
  | (with_reducible refine wpl_load rfl 134 _ rfl _ rfl 134 _ hb1 8 5 Tryz.underlying134 (i8a' _) ?_))
 refine (rounds_any f Hf.out _).mono ?_
 rintro e w1 ⟨rfl, hB4⟩
 have hb2a := (hb2.below hB4 hb2.lt).alloc (.cells (row 16 (iv .u64 (rounds (num f 8)))) 169)
 have hb3a := (hb3.below hB4 hb3.lt).alloc (.cells (row 16 (iv .u64 (rounds (num f 8)))) 169)
 have hB4a := hB3.trans (hB4.mono hB3.size)
 have hB5a := hB4a.alloc hB4a.size (.cells (row 16 (iv .u64 (rounds (num f 8)))) 169)
 have hba := Blk.fresh w1 169 (row 16 (iv .u64 (rounds (num f 8))))
 have hg : w.heap.size + 2 < w1.heap.size := by have := hb3.lt; have := hB4.size; omega
 clear hb1 hb2 hb3 hB3 hB4 hB4a
 go_wp2_with (first
  | (with_reducible refine wpl_alloc rfl 169 rfl _ zR16 ?_)
  | (with_reducible refine wpl_store_newi rfl 169 _ _ rfl w1 _ 16 _ (fun _ => rfl) rfl rfl 169 iR16 (row_size _ _) ?_)
  | (with_reducible refine wpl_load rfl 134 _ rfl _ rfl 134 _ hb2a 8 5 Tryz.underlying134 (i8a' _) ?_))
 refine (rev_any _ _ _ hba).mono ?_
 rintro e w2 ⟨rfl, hb7, hO⟩
 have hb2b := hO.blk hb2a (by omega)
 have hb3b := hO.blk hb3a (by omega)
 have hBb := hB5a.trans (hO.below (B := w.heap.size) (by omega))
 clear hb2a hb3a hB5a hba hO
 generalize w1.heap.size = g at *
 go_wp2_with (with_reducible refine wpl_load rfl 134 _ rfl _ rfl 134 _ hb2b 8 5 Tryz.underlying134 (i8a' _) ?_)
 have HK : Hid (∀ i, i < 16 → kk f true i = (fun i => rounds (num f 8) (15 - i)) i) := hid (fun _ _ => rfl)
 have HKl : Hid (∀ i, (fun i => rounds (num f 8) (15 - i)) i < 281474976710656) := hid (fun _ => rounds_lt _ _)
 generalize hKe : (fun i => rounds (num f 8) (15 - i)) = K at *
 clear hKe
 refine (num_any b Hb.out _).mono ?_
 rintro e w3 ⟨rfl, hB8⟩
 have hb7c := hb7.below hB8 hb7.lt
 have hb3c := hb3b.below hB8 hb3b.lt
 have hBc := hBb.trans (hB8.mono hBb.size)
 clear hb7 hb3b hBb hB8 hb2b
 go_wp2_with fail
 refine (pick_any _ 64 ip (by decide +kernel) _ 64 (num_lt64 Hb.out) (by omega) (by omega) (fun i hi => (ip_range i hi).2) _).mono ?_
 rintro e w4 ⟨rfl, q, rfl⟩
 have hb7d := hb7c.drewN q
 have hb3d := hb3c.drewN q
 have hBd := below_drewN hBc q
 clear hb7c hb3c hBc
 generalize w3.drewN q = w4 at *
 have hP : pk ip 64 (num b 8) 64 < 18446744073709551616 := pk_lt ip 64 (num b 8) 64
 have HX : Hid (∀ J : Nat → Nat, blk J (num b 8) = fin (fe J (pk ip 64 (num b 8) 64 / 4294967296) (pk ip 64 (num b 8) 64 % 4294967296) 16)) := hid (fun _ => rfl)
 generalize pk ip 64 (num b 8) 64 = B at *
 have HF := hid (fun i => fe_lt K (l := B / 4294967296) (r := B % 4294967296) (by omega) (by omega) i)
 go_wp2_with (with_reducible refine wpl_load rfl 169 _ rfl _ rfl 169 _ hb7d 16 168 Tryz.underlying169 (iR16' _) ?_)
 go_loopw [9, 10, 27] (fun l r i wr => ∃ (k : Nat), k ≤ 16 ∧ l = .int .u32 ((fe K (B / 4294967296) (B % 4294967296) k).1 : Nat) ∧ r = .int .u32 ((fe K (B / 4294967296) (B % 4294967296) k).2 : Nat) ∧ i = .int .i64 k ∧ Blk wr (w.heap.size + 2) 134 (row 8 (b8 fun _ => 0)) ∧ Below w.heap.size w wr) (fun _ _ i _ => 16 - (intOf i).toNat)
 case atStart => exact ⟨0, by omega, val_int (by rw [fe]; omega), val_int (by rw [fe]; omega), rfl, hb3d, hBd⟩
 case round =>
  clear hb7d hb3d hBd
  obtain ⟨k, hk, rfl, rfl, rfl, hb3, hB⟩ := hrel
  by_cases hlt : k < 16
  ·obtain ⟨hl1, hr1⟩ := HF.out k
   have hr1' : (fe K (B / 4294967296) (B % 4294967296) k).2 < 4294967296 := hr1
   have hkk := HKl.out k
   have hff := ff_lt (fe K (B / 4294967296) (B % 4294967296) k).2 (K k)
   have Hx := hid (u32_xor_nat _ _ hl1 hff)
   have H1 : Hid ((fe K (B / 4294967296) (B % 4294967296) (k + 1)).1 = (fe K (B / 4294967296) (B % 4294967296) k).2) := hid rfl
   have H2 : Hid ((fe K (B / 4294967296) (B % 4294967296) (k + 1)).2 = (fe K (B / 4294967296) (B % 4294967296) k).1 ^^^ ff (fe K (B / 4294967296) (B % 4294967296) k).2 (K k)) := hid rfl
   generalize (fe K (B / 4294967296) (B % 4294967296) k).1 = l1 at *
   generalize (fe K (B / 4294967296) (B % 4294967296) k).2 = r1 at *
   go_wp2_with (with_reducible refine wpl_index rfl 169 _ _ rfl _ rfl .i64 _ rfl k rfl 16 168 Tryz.underlying169 hlt .u64 Tryz.underlying168 iU64 _ (iv_get .u64 16 K k hlt) ?_)
   refine (mixed_any r1 (K k) hr1' hkk _).mono ?_
   rintro e w5 ⟨rfl, hB5⟩
   have hb3' := hb3.below hB5 hb3.lt
   have hB' := hB.trans (hB5.mono hB.size)
   clear hb3 hB hB5
   go_wp2_with fail
   exact ⟨⟨k + 1, by omega, val_int (by rw [H1.out]), val_int (by rw [Hx.out, H2.out]), val_int (by omega), hb3', hB'⟩, by simp [intOf]; omega⟩
  obtain ⟨hl1, hr1⟩ := HF.out k
  have Hk : Hid (k = 16) := hid (by omega)
  have Hor := hid (or_32 _ _ hr1 hl1)
  have Hfin : Hid (fin (fe K (B / 4294967296) (B % 4294967296) k) = up ip 64 ((fe K (B / 4294967296) (B % 4294967296) k).2 * 2 ^ 32 + (fe K (B / 4294967296) (B % 4294967296) k).1) 64) := hid rfl
  have Hdes : Hid (des f b true = byt (fin (fe K (B / 4294967296) (B % 4294967296) k))) := hid (by
   show byt (blk (kk f true) (num b 8)) = _
   rw [blk_ext _ HK.out, HX.out, Hk.out])
  have hfl : fin (fe K (B / 4294967296) (B % 4294967296) k) < 18446744073709551616 := up_lt _
  have hsum : (fe K (B / 4294967296) (B % 4294967296) k).2 * 2 ^ 32 + (fe K (B / 4294967296) (B % 4294967296) k).1 < 18446744073709551616 := by omega
  generalize (fe K (B / 4294967296) (B % 4294967296) k).1 = l1 at *
  generalize (fe K (B / 4294967296) (B % 4294967296) k).2 = r1 at *
  generalize fin (fe K (B / 4294967296) (B % 4294967296) k) = F at *
  go_wp2_with fail
  rw [Hor.out]
  refine (unpick_any _ (by decide +kernel) _ hsum _).mono ?_
  rintro e w5 ⟨rfl, q2, rfl⟩
  rw [← Hfin.out]
  have hb3' := hb3.drewN q2
  have hB' := below_drewN hB q2
  clear hb3 hB
  generalize wr.drewN q2 = w6 at *
  go_wp2_with fail
  refine (byt_any F hfl _).mono ?_
  rintro e w7 ⟨rfl, hB7⟩
  have hb4 := hb3'.below hB7 hb3'.lt
  have hB8 := hB'.trans (hB7.mono hB'.size)
  clear hb3' hB' hB7
  go_wp2_with (with_reducible refine wpl_store rfl 134 _ _ rfl _ _ rfl rfl 134 _ hb4 (i8a' _) (by simp [row_size]) (one_b8 _ _) ?_)
  exact ret_row Tryz.results95 rfl (w.heap.size + 2) rfl 134 8 _ (hb4.setRow _) 5 Tryz.underlying134 i8a ⟨by rw [Hdes.out], below_setRow' hB8 (by omega) _⟩
theorem block_any (f b : Nat → Nat) (back : Bool) (hf : By8 f) (hb : By8 b) (w : World) :
  Calls Tryz.prog 95 #[.agg (row 8 (b8 f)), .agg (row 8 (b8 b)), .bool back] w fun e w' => e = .returned (.agg (row 8 (b8 (des f b back)))) ∧ Below w.heap.size w w' := by
 cases back
 ·exact block_fwd f b hf hb w
 exact block_bwd f b hf hb w
end Go.Proofs.YtlmnoapoofmmnaaGreatDoor.Des
