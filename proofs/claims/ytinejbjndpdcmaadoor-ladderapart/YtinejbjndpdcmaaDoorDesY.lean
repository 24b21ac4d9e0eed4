/-
 DesBlock DesKeys DesRev3 DesTriple
-/
import Derived.Test.YtinejbjndpdcmaaDoorDesX
import Derived.Test.YtinejbjndpdcmaaDoorConcat
import Derived.RegionTactic
import Derived.BigRegion
namespace Go.Proofs.YtinejbjndpdcmaaDoor.Des
open Go.ChangeShapes Go.WideShapes Go.ChangeAt Go.RowKit Mem
theorem or_32 (a b : Nat) (ha : a < 2 ^ 32) (hb : b < 2 ^ 32) : bits .or .u64 ((a : Int) * 4294967296) (b : Int) = ((a * 2 ^ 32 + b : Nat) : Int) := by
 rw [show (a : Int) * 4294967296 = ((a * 2 ^ 32 : Nat) : Int) by omega, u64_or_nat _ _ (by omega) (by omega), or_add 32 _ _ hb]
theorem rounds_lt (n r : Nat) : rounds n r < 281474976710656 := pk_lt _ _ _ _
set_option maxRecDepth 100000 in
set_option maxHeartbeats 4000000 in
theorem block_fwd (f b : Nat → Nat) (hf : By8 f) (hb : By8 b) (w : World) :
  Calls Tryd.prog 40 #[.agg (row 8 (b8 f)), .agg (row 8 (b8 b)), .bool false] w fun e w' => e = .returned (.agg (row 8 (b8 (des f b false)))) ∧ Below w.heap.size w w' := by
 have Hf := hid hf
 have Hb := hid hb
 clear hf hb
 have hb1 := ((Blk.fresh w 57 (row 8 (b8 f))).alloc (.cells (row 8 (b8 b)) 57)).alloc (.cells (row 8 (b8 fun _ => 0)) 57)
 have hb2 := (two_new w (.cells (row 8 (b8 f)) 57) (row 8 (b8 b)) 57).alloc (.cells (row 8 (b8 fun _ => 0)) 57)
 have hb3 : Blk (((w.alloc (.cells (row 8 (b8 f)) 57)).alloc (.cells (row 8 (b8 b)) 57)).alloc (.cells (row 8 (b8 fun _ => 0)) 57)) (w.heap.size + 2) 57 (row 8 (b8 fun _ => 0)) := by simpa using Blk.fresh ((w.alloc (.cells (row 8 (b8 f)) 57)).alloc (.cells (row 8 (b8 b)) 57)) 57 (row 8 (b8 fun _ => 0))
 have hB3 : Below w.heap.size w (((w.alloc (.cells (row 8 (b8 f)) 57)).alloc (.cells (row 8 (b8 b)) 57)).alloc (.cells (row 8 (b8 fun _ => 0)) 57)) := (((Below.refl _ _).alloc (Nat.le_refl _) _).alloc (by simp) _).alloc (by simp; omega) _
 go_enter Tryd.func40, Tryd.ntmps40
 go_wp2_with (first
  | (with_reducible refine wpl_alloc rfl 57 rfl _ z8 ?_)
  | (with_reducible refine wpl_load rfl 57 _ rfl _ rfl 57 _ hb1 8 5 Tryd.underlying57 (i8a' _) ?_))
 refine (rounds_any f Hf.out _).mono ?_
 rintro e w1 ⟨rfl, hB4⟩
 have hb2a := (hb2.below hB4 hb2.lt).alloc (.cells (row 16 (iv .u64 (rounds (num f 8)))) 101)
 have hb3a := (hb3.below hB4 hb3.lt).alloc (.cells (row 16 (iv .u64 (rounds (num f 8)))) 101)
 have hB4a := hB3.trans (hB4.mono hB3.size)
 have hB5a := hB4a.alloc hB4a.size (.cells (row 16 (iv .u64 (rounds (num f 8)))) 101)
 have hba := Blk.fresh w1 101 (row 16 (iv .u64 (rounds (num f 8))))
 have hg : w.heap.size + 2 < w1.heap.size := by have := hb3.lt; have := hB4.size; omega
 clear hb1 hb2 hb3 hB3 hB4 hB4a
 go_wp2_with (first
  | (with_reducible refine wpl_alloc rfl 101 rfl _ zR16 ?_)
  | (with_reducible refine wpl_store_newi rfl 101 _ _ rfl w1 _ 16 _ (fun _ => rfl) rfl rfl 101 iR16 (row_size _ _) ?_)
  | (with_reducible refine wpl_load rfl 57 _ rfl _ rfl 57 _ hb2a 8 5 Tryd.underlying57 (i8a' _) ?_))
 have hb7 := hba
 have hb2b := hb2a
 have hb3b := hb3a
 have hBb := hB5a
 clear hb2a hb3a hB5a hba
 generalize w1.alloc (.cells (row 16 (iv .u64 (rounds (num f 8)))) 101) = w2 at *
 generalize w1.heap.size = g at *
 have HK : Hid (∀ i, i < 16 → kk f false i = (rounds (num f 8)) i) := hid (fun _ _ => rfl)
 have HKl : Hid (∀ i, (rounds (num f 8)) i < 281474976710656) := hid (fun _ => rounds_lt _ _)
 generalize hKe : (rounds (num f 8)) = K at *
 clear hKe
 refine (num_any b Hb.out _).mono ?_
 rintro e w3 ⟨rfl, hB8⟩
 have hb7c := hb7.below hB8 hb7.lt
 have hb3c := hb3b.below hB8 hb3b.lt
 have hBc := hBb.trans (hB8.mono hBb.size)
 clear hb7 hb3b hBb hB8 hb2b
 go_wp2_with fail
 refine (pick_any _ 64 ip (by decide +kernel) _ 64 (num_lt64 Hb.out) (by omega) (by omega) (fun i hi => (ip_range i hi).2) _).mono ?_
 rintro e w4 ⟨rfl, q, rfl⟩
 have hb7d := hb7c.drewN q
 have hb3d := hb3c.drewN q
 have hBd := below_drewN hBc q
 clear hb7c hb3c hBc
 generalize w3.drewN q = w4 at *
 have hP : pk ip 64 (num b 8) 64 < 18446744073709551616 := pk_lt ip 64 (num b 8) 64
 have HX : Hid (∀ J : Nat → Nat, blk J (num b 8) = fin (fe J (pk ip 64 (num b 8) 64 / 4294967296) (pk ip 64 (num b 8) 64 % 4294967296) 16)) := hid (fun _ => rfl)
 generalize pk ip 64 (num b 8) 64 = B at *
 have HF := hid (fun i => fe_lt K (l := B / 4294967296) (r := B % 4294967296) (by omega) (by omega) i)
 go_wp2_with (with_reducible refine wpl_load rfl 101 _ rfl _ rfl 101 _ hb7d 16 67 Tryd.underlying101 (iR16' _) ?_)
 go_loopw [9, 10, 27] (fun l r i wr => ∃ (k : Nat), k ≤ 16 ∧ l = .int .u32 ((fe K (B / 4294967296) (B % 4294967296) k).1 : Nat) ∧ r = .int .u32 ((fe K (B / 4294967296) (B % 4294967296) k).2 : Nat) ∧ i = .int .i64 k ∧ Blk wr (w.heap.size + 2) 57 (row 8 (b8 fun _ => 0)) ∧ Below w.heap.size w wr) (fun _ _ i _ => 16 - (intOf i).toNat)
 case atStart => exact ⟨0, by omega, val_int (by rw [fe]; omega), val_int (by rw [fe]; omega), rfl, hb3d, hBd⟩
 case round =>
  clear hb7d hb3d hBd
  obtain ⟨k, hk, rfl, rfl, rfl, hb3, hB⟩ := hrel
  by_cases hlt : k < 16
  ·obtain ⟨hl1, hr1⟩ := HF.out k
   have hr1' : (fe K (B / 4294967296) (B % 4294967296) k).2 < 4294967296 := hr1
   have hkk := HKl.out k
   have hff := ff_lt (fe K (B / 4294967296) (B % 4294967296) k).2 (K k)
   have Hx := hid (u32_xor_nat _ _ hl1 hff)
   have H1 : Hid ((fe K (B / 4294967296) (B % 4294967296) (k + 1)).1 = (fe K (B / 4294967296) (B % 4294967296) k).2) := hid rfl
   have H2 : Hid ((fe K (B / 4294967296) (B % 4294967296) (k + 1)).2 = (fe K (B / 4294967296) (B % 4294967296) k).1 ^^^ ff (fe K (B / 4294967296) (B % 4294967296) k).2 (K k)) := hid rfl
   generalize (fe K (B / 4294967296) (B % 4294967296) k).1 = l1 at *
   generalize (fe K (B / 4294967296) (B % 4294967296) k).2 = r1 at *
   go_wp2_with (with_reducible refine wpl_index rfl 101 _ _ rfl _ rfl .i64 _ rfl k rfl 16 67 Tryd.underlying101 hlt .u64 Tryd.underlying67 iU64 _ (iv_get .u64 16 K k hlt) ?_)
   refine (mixed_any r1 (K k) hr1' hkk _).mono ?_
   rintro e w5 ⟨rfl, hB5⟩
   have hb3' := hb3.below hB5 hb3.lt
   have hB' := hB.trans (hB5.mono hB.size)
   clear hb3 hB hB5
   go_wp2_with fail
   exact ⟨⟨k + 1, by omega, val_int (by rw [H1.out]), val_int (by rw [Hx.out, H2.out]), val_int (by omega), hb3', hB'⟩, by simp [intOf]; omega⟩
  obtain ⟨hl1, hr1⟩ := HF.out k
  have Hk : Hid (k = 16) := hid (by omega)
  have Hor := hid (or_32 _ _ hr1 hl1)
  have Hfin : Hid (fin (fe K (B / 4294967296) (B % 4294967296) k) = up ip 64 ((fe K (B / 4294967296) (B % 4294967296) k).2 * 2 ^ 32 + (fe K (B / 4294967296) (B % 4294967296) k).1) 64) := hid rfl
  have Hdes : Hid (des f b false = byt (fin (fe K (B / 4294967296) (B % 4294967296) k))) := hid (by
   show byt (blk (kk f false) (num b 8)) = _
   rw [blk_ext _ HK.out, HX.out, Hk.out])
  have hfl : fin (fe K (B / 4294967296) (B % 4294967296) k) < 18446744073709551616 := up_lt _
  have hsum : (fe K (B / 4294967296) (B % 4294967296) k).2 * 2 ^ 32 + (fe K (B / 4294967296) (B % 4294967296) k).1 < 18446744073709551616 := by omega
  generalize (fe K (B / 4294967296) (B % 4294967296) k).1 = l1 at *
  generalize (fe K (B / 4294967296) (B % 4294967296) k).2 = r1 at *
  generalize fin (fe K (B / 4294967296) (B % 4294967296) k) = F at *
  go_wp2_with fail
  rw [Hor.out]
  refine (unpick_any _ (by decide +kernel) _ hsum _).mono ?_
  rintro e w5 ⟨rfl, q2, rfl⟩
  rw [← Hfin.out]
  have hb3' := hb3.drewN q2
  have hB' := below_drewN hB q2
  clear hb3 hB
  generalize wr.drewN q2 = w6 at *
  go_wp2_with fail
  refine (byt_any F hfl _).mono ?_
  rintro e w7 ⟨rfl, hB7⟩
  have hb4 := hb3'.below hB7 hb3'.lt
  have hB8 := hB'.trans (hB7.mono hB'.size)
  clear hb3' hB' hB7
  go_wp2_with (with_reducible refine wpl_store rfl 57 _ _ rfl _ _ rfl rfl 57 _ hb4 (i8a' _) (by simp [row_size]) (one_b8 _ _) ?_)
  exact ret_row Tryd.results40 rfl (w.heap.size + 2) rfl 57 8 _ (hb4.setRow _) 5 Tryd.underlying57 i8a ⟨by rw [Hdes.out], below_setRow' hB8 (by omega) _⟩
set_option maxRecDepth 100000 in
set_option maxHeartbeats 4000000 in
theorem block_bwd (f b : Nat → Nat) (hf : By8 f) (hb : By8 b) (w : World) :
  Calls Tryd.prog 40 #[.agg (row 8 (b8 f)), .agg (row 8 (b8 b)), .bool true] w fun e w' => e = .returned (.agg (row 8 (b8 (des f b true)))) ∧ Below w.heap.size w w' := by
 have Hf := hid hf
 have Hb := hid hb
 clear hf hb
 have hb1 := ((Blk.fresh w 57 (row 8 (b8 f))).alloc (.cells (row 8 (b8 b)) 57)).alloc (.cells (row 8 (b8 fun _ => 0)) 57)
 have hb2 := (two_new w (.cells (row 8 (b8 f)) 57) (row 8 (b8 b)) 57).alloc (.cells (row 8 (b8 fun _ => 0)) 57)
 have hb3 : Blk (((w.alloc (.cells (row 8 (b8 f)) 57)).alloc (.cells (row 8 (b8 b)) 57)).alloc (.cells (row 8 (b8 fun _ => 0)) 57)) (w.heap.size + 2) 57 (row 8 (b8 fun _ => 0)) := by simpa using Blk.fresh ((w.alloc (.cells (row 8 (b8 f)) 57)).alloc (.cells (row 8 (b8 b)) 57)) 57 (row 8 (b8 fun _ => 0))
 have hB3 : Below w.heap.size w (((w.alloc (.cells (row 8 (b8 f)) 57)).alloc (.cells (row 8 (b8 b)) 57)).alloc (.cells (row 8 (b8 fun _ => 0)) 57)) := (((Below.refl _ _).alloc (Nat.le_refl _) _).alloc (by simp) _).alloc (by simp; omega) _
 go_enter Tryd.func40, Tryd.ntmps40
 go_wp2_with (first
  | (with_reducible refine wpl_alloc rfl 57 rfl _ z8 ?_)
  | (with_reducible refine wpl_load rfl 57 _ rfl _ rfl 57 _ hb1 8 5 Tryd.underlying57 (i8a' _) ?_))
 refine (rounds_any f Hf.out _).mono ?_
 rintro e w1 ⟨rfl, hB4⟩
 have hb2a := (hb2.below hB4 hb2.lt).alloc (.cells (row 16 (iv .u64 (rounds (num f 8)))) 101)
 have hb3a := (hb3.below hB4 hb3.lt).alloc (.cells (row 16 (iv .u64 (rounds (num f 8)))) 101)
 have hB4a := hB3.trans (hB4.mono hB3.size)
 have hB5a := hB4a.alloc hB4a.size (.cells (row 16 (iv .u64 (rounds (num f 8)))) 101)
 have hba := Blk.fresh w1 101 (row 16 (iv .u64 (rounds (num f 8))))
 have hg : w.heap.size + 2 < w1.heap.size := by have := hb3.lt; have := hB4.size; omega
 clear hb1 hb2 hb3 hB3 hB4 hB4a
 go_wp2_with (first
  | (with_reducible refine wpl_alloc rfl 101 rfl _ zR16 ?_)
  | (with_reducible refine wpl_store_newi rfl 101 _ _ rfl w1 _ 16 _ (fun _ => rfl) rfl rfl 101 iR16 (row_size _ _) ?_)
  | (with_reducible refine wpl_load rfl 57 _ rfl _ rfl 57 _ hb2a 8 5 Tryd.underlying57 (i8a' _) ?_))
 refine (rev_any _ _ _ hba).mono ?_
 rintro e w2 ⟨rfl, hb7, hO⟩
 have hb2b := hO.blk hb2a (by omega)
 have hb3b := hO.blk hb3a (by omega)
 have hBb := hB5a.trans (hO.below (B := w.heap.size) (by omega))
 clear hb2a hb3a hB5a hba hO
 generalize w1.heap.size = g at *
 go_wp2_with (with_reducible refine wpl_load rfl 57 _ rfl _ rfl 57 _ hb2b 8 5 Tryd.underlying57 (i8a' _) ?_)
 have HK : Hid (∀ i, i < 16 → kk f true i = (fun i => rounds (num f 8) (15 - i)) i) := hid (fun _ _ => rfl)
 have HKl : Hid (∀ i, (fun i => rounds (num f 8) (15 - i)) i < 281474976710656) := hid (fun _ => rounds_lt _ _)
 generalize hKe : (fun i => rounds (num f 8) (15 - i)) = K at *
 clear hKe
 refine (num_any b Hb.out _).mono ?_
 rintro e w3 ⟨rfl, hB8⟩
 have hb7c := hb7.below hB8 hb7.lt
 have hb3c := hb3b.below hB8 hb3b.lt
 have hBc := hBb.trans (hB8.mono hBb.size)
 clear hb7 hb3b hBb hB8 hb2b
 go_wp2_with fail
 refine (pick_any _ 64 ip (by decide +kernel) _ 64 (num_lt64 Hb.out) (by omega) (by omega) (fun i hi => (ip_range i hi).2) _).mono ?_
 rintro e w4 ⟨rfl, q, rfl⟩
 have hb7d := hb7c.drewN q
 have hb3d := hb3c.drewN q
 have hBd := below_drewN hBc q
 clear hb7c hb3c hBc
 generalize w3.drewN q = w4 at *
 have hP : pk ip 64 (num b 8) 64 < 18446744073709551616 := pk_lt ip 64 (num b 8) 64
 have HX : Hid (∀ J : Nat → Nat, blk J (num b 8) = fin (fe J (pk ip 64 (num b 8) 64 / 4294967296) (pk ip 64 (num b 8) 64 % 4294967296) 16)) := hid (fun _ => rfl)
 generalize pk ip 64 (num b 8) 64 = B at *
 have HF := hid (fun i => fe_lt K (l := B / 4294967296) (r := B % 4294967296) (by omega) (by omega) i)
 go_wp2_with (with_reducible refine wpl_load rfl 101 _ rfl _ rfl 101 _ hb7d 16 67 Tryd.underlying101 (iR16' _) ?_)
 go_loopw [9, 10, 27] (fun l r i wr => ∃ (k : Nat), k ≤ 16 ∧ l = .int .u32 ((fe K (B / 4294967296) (B % 4294967296) k).1 : Nat) ∧ r = .int .u32 ((fe K (B / 4294967296) (B % 4294967296) k).2 : Nat) ∧ i = .int .i64 k ∧ Blk wr (w.heap.size + 2) 57 (row 8 (b8 fun _ => 0)) ∧ Below w.heap.size w wr) (fun _ _ i _ => 16 - (intOf i).toNat)
 case atStart => exact ⟨0, by omega, val_int (by rw [fe]; omega), val_int (by rw [fe]; omega), rfl, hb3d, hBd⟩
 case round =>
  clear hb7d hb3d hBd
  obtain ⟨k, hk, rfl, rfl, rfl, hb3, hB⟩ := hrel
  by_cases hlt : k < 16
  ·obtain ⟨hl1, hr1⟩ := HF.out k
   have hr1' : (fe K (B / 4294967296) (B % 4294967296) k).2 < 4294967296 := hr1
   have hkk := HKl.out k
   have hff := ff_lt (fe K (B / 4294967296) (B % 4294967296) k).2 (K k)
   have Hx := hid (u32_xor_nat _ _ hl1 hff)
   have H1 : Hid ((fe K (B / 4294967296) (B % 4294967296) (k + 1)).1 = (fe K (B / 4294967296) (B % 4294967296) k).2) := hid rfl
   have H2 : Hid ((fe K (B / 4294967296) (B % 4294967296) (k + 1)).2 = (fe K (B / 4294967296) (B % 4294967296) k).1 ^^^ ff (fe K (B / 4294967296) (B % 4294967296) k).2 (K k)) := hid rfl
   generalize (fe K (B / 4294967296) (B % 4294967296) k).1 = l1 at *
   generalize (fe K (B / 4294967296) (B % 4294967296) k).2 = r1 at *
   go_wp2_with (with_reducible refine wpl_index rfl 101 _ _ rfl _ rfl .i64 _ rfl k rfl 16 67 Tryd.underlying101 hlt .u64 Tryd.underlying67 iU64 _ (iv_get .u64 16 K k hlt) ?_)
   refine (mixed_any r1 (K k) hr1' hkk _).mono ?_
   rintro e w5 ⟨rfl, hB5⟩
   have hb3' := hb3.below hB5 hb3.lt
   have hB' := hB.trans (hB5.mono hB.size)
   clear hb3 hB hB5
   go_wp2_with fail
   exact ⟨⟨k + 1, by omega, val_int (by rw [H1.out]), val_int (by rw [Hx.out, H2.out]), val_int (by omega), hb3', hB'⟩, by simp [intOf]; omega⟩
  obtain ⟨hl1, hr1⟩ := HF.out k
  have Hk : Hid (k = 16) := hid (by omega)
  have Hor := hid (or_32 _ _ hr1 hl1)
  have Hfin : Hid (fin (fe K (B / 4294967296) (B % 4294967296) k) = up ip 64 ((fe K (B / 4294967296) (B % 4294967296) k).2 * 2 ^ 32 + (fe K (B / 4294967296) (B % 4294967296) k).1) 64) := hid rfl
  have Hdes : Hid (des f b true = byt (fin (fe K (B / 4294967296) (B % 4294967296) k))) := hid (by
   show byt (blk (kk f true) (num b 8)) = _
   rw [blk_ext _ HK.out, HX.out, Hk.out])
  have hfl : fin (fe K (B / 4294967296) (B % 4294967296) k) < 18446744073709551616 := up_lt _
  have hsum : (fe K (B / 4294967296) (B % 4294967296) k).2 * 2 ^ 32 + (fe K (B / 4294967296) (B % 4294967296) k).1 < 18446744073709551616 := by omega
  generalize (fe K (B / 4294967296) (B % 4294967296) k).1 = l1 at *
  generalize (fe K (B / 4294967296) (B % 4294967296) k).2 = r1 at *
  generalize fin (fe K (B / 4294967296) (B % 4294967296) k) = F at *
  go_wp2_with fail
  rw [Hor.out]
  refine (unpick_any _ (by decide +kernel) _ hsum _).mono ?_
  rintro e w5 ⟨rfl, q2, rfl⟩
  rw [← Hfin.out]
  have hb3' := hb3.drewN q2
  have hB' := below_drewN hB q2
  clear hb3 hB
  generalize wr.drewN q2 = w6 at *
  go_wp2_with fail
  refine (byt_any F hfl _).mono ?_
  rintro e w7 ⟨rfl, hB7⟩
  have hb4 := hb3'.below hB7 hb3'.lt
  have hB8 := hB'.trans (hB7.mono hB'.size)
  clear hb3' hB' hB7
  go_wp2_with (with_reducible refine wpl_store rfl 57 _ _ rfl _ _ rfl rfl 57 _ hb4 (i8a' _) (by simp [row_size]) (one_b8 _ _) ?_)
  exact ret_row Tryd.results40 rfl (w.heap.size + 2) rfl 57 8 _ (hb4.setRow _) 5 Tryd.underlying57 i8a ⟨by rw [Hdes.out], below_setRow' hB8 (by omega) _⟩
theorem block_any (f b : Nat → Nat) (back : Bool) (hf : By8 f) (hb : By8 b) (w : World) :
  Calls Tryd.prog 40 #[.agg (row 8 (b8 f)), .agg (row 8 (b8 b)), .bool back] w fun e w' => e = .returned (.agg (row 8 (b8 (des f b back)))) ∧ Below w.heap.size w w' := by
 cases back
 ·exact block_fwd f b hf hb w
 exact block_bwd f b hf hb w
end Go.Proofs.YtinejbjndpdcmaaDoor.Des
namespace Go.Proofs.YtinejbjndpdcmaaDoor.Des
open Go.ChangeShapes Go.WideShapes Go.ChangeAt Go.RowKit Mem
section
variable {P : Program} {o : Oper} {a : Act} {w : World}
theorem exec_loadR (ty : TypeId) (x : Operand) (ho : o.op = .load ty x) (p : Addr) (hx : a.eval x = .pointer (some p)) (n : Nat) (f : Nat → Nat) (hc : ∀ i, i < n → w.cell? (p.add i) = some (.int .u8 ((f i : Nat) : Int)))
  (e : TypeId) (hu : P.underlying ty = some (.array n e)) (hi : (P.info? ty).map (·.size) = some n) : (execOp a.eval o).run P w = .ok (.value (.agg (row n (b8 f)))) w := by
 have h := run_loadCells (P := P) w p n (b8 f) hc
 have e1 : ((List.range n).map (b8 f)).toArray = row n (b8 f) := by
  apply row_of (by simp)
  intro i hi
  simp [hi, b8]
 rw [e1] at h
 unfold execOp
 simp [ho, hx, Instr.loadAt, Instr.sureAddr, loadVar, isAgg, run_underlying hu, run_size hi, h]
theorem exec_arr (ty : TypeId) (x : Operand) (ho : o.op = .sliceToArrayPointer ty x) (p : Addr) (L c : Nat) (hx : a.eval x = .slice (some p) L c) (n : Nat) (e : TypeId) (hu : P.underlying ty = some (.array n e)) (hL : n ≤ L) :
  (execOp a.eval o).run P w = .ok (.value (.pointer (some p))) w := by
 unfold execOp
 simp [ho, hx, Instr.arrayAt, run_underlying hu, show ¬ L < n by omega]
end
def three (L : Nat) (key : Nat → Nat) : Nat → Nat := fun i => tkey L key (i / 8) (i % 8)
theorem add_off (a : Addr) (k i : Nat) : (⟨a.block, a.off + (k + 1), none⟩ : Addr).add i = (a.add (k + 1)).add i := by simp [Addr.add]
theorem exec_build {P : Program} {o : Oper} {a : Act} {w : World} (ty : TypeId) (l : List (Nat × Operand)) (ho : o.op = .build ty l.toArray) (cs : Array Value) (hb : P.built ty (l.map fun p => (p.1, a.eval p.2)) = some cs) :
  (execOp a.eval o).run P w = .ok (.value (.agg cs)) w := by
 have e := run_build (P := P) w ty (l.map fun p => (p.1, a.eval p.2)).toArray cs hb
 unfold execOp
 simp only [ho, List.map_toArray, e, Sem.run_bind, Sem.run_pure, Result.andThen_ok]
theorem wps_build {P : Program} {ops : Array Oper} {rest : List Oper} {o : Oper} {a : Act} {w : World} {Q : Act → Prop} (hgd : o.guard = none) (ty : TypeId) (l : List (Nat × Operand)) (ho : o.op = .build ty l.toArray) (cs : Array Value) (hb : P.built ty (l.map fun p => (p.1, a.eval p.2)) = some cs)
  (h : wpStill P ops w Q rest (a.put o.dst (.agg cs))) : wpStill P ops w Q (o :: rest) a := wps_val hgd _ (exec_build ty l ho cs hb) h
theorem ret_row_tmp2 {P : Program} {fn : Func} {p q : Tmp} {ty : TypeId} {R : Ending → World → Prop} {a : Act} {w : World} (h : fn.results = #[.cell p ty, .tmp q]) (hd : a.defers = []) (g : Nat) (hp : a.tmps.getD p undef = .pointer (some ⟨g, 0, none⟩)) (v : Value) (hq : a.tmps.getD q undef = v)
  (t : TypeId) (n : Nat) (c : Nat → Value) (hg : Blk w g t (row n c)) (m : Nat) (e : TypeId) (hu : P.underlying ty = some (.array m e)) (hi : (P.info? ty).map (·.size) = some n) (hR : R (.returned (.tuple #[.agg (row n c), v])) w) : bodyPost P fn R .ret a w := by
 refine bodyPost_ret ?_ hd hR
 have hl := run_loadVar_row (P := P) w g t ty (row n c) (0, 0) _ hg hu rfl (by rw [row_size]; exact hi)
 have hp' : a.tmps[p]?.getD undef = .pointer (some ⟨g, 0, none⟩) := by simpa using hp
 have hq' : a.tmps[q]?.getD undef = v := by simpa using hq
 simp [results, h, hp', hq', asAddr, hl]
theorem three_of24 (key : Nat → Nat) (i : Nat) (hi : i < 24) : (if i < 8 then key i else if i < 16 then key (8 + (i - 8)) else key (16 + (i - 16))) = three 24 key i := by
 unfold three tkey
 simp only [show ¬ 24 = 8 by omega, show ¬ 24 = 16 by omega, if_false, show 8 * (i / 8) + i % 8 = i by omega]
 by_cases h : i < 8
 ·rw [if_pos h]
 by_cases h2 : i < 16
 ·rw [if_neg h, if_pos h2, show 8 + (i - 8) = i by omega]
 rw [if_neg h, if_neg h2, show 16 + (i - 16) = i by omega]
theorem three_of16 (key : Nat → Nat) (i : Nat) (hi : i < 24) : (if i < 8 then cat 16 key key i else if i < 16 then cat 16 key key (8 + (i - 8)) else cat 16 key key (16 + (i - 16))) = three 16 key i := by
 unfold three tkey cat
 simp only [show ¬ 16 = 8 by omega, if_true, if_false, show 8 * (i / 8) + i % 8 = i by omega]
 by_cases h : i < 8
 ·rw [if_pos h, if_pos (by omega), show i % 16 = i by omega]
 by_cases h2 : i < 16
 ·rw [if_neg h, if_pos h2, if_pos (by omega), show 8 + (i - 8) = i by omega, show i % 16 = i by omega]
 rw [if_neg h, if_neg h2, if_neg (by omega), show 16 + (i - 16) - 16 = i % 16 by omega]
theorem three_of8 (key : Nat → Nat) (i : Nat) (hi : i < 24) : (if i < 8 then cat 16 (cat 8 key key) (cat 8 key key) i else if i < 16 then cat 16 (cat 8 key key) (cat 8 key key) (8 + (i - 8)) else cat 16 (cat 8 key key) (cat 8 key key) (16 + (i - 16))) = three 8 key i := by
 unfold three tkey cat
 simp only [if_true]
 by_cases h : i < 8
 ·rw [if_pos h, if_pos (by omega), if_pos (by omega), show i % 8 = i by omega]
 by_cases h2 : i < 16
 ·rw [if_neg h, if_pos h2, if_pos (by omega), if_neg (by omega), show 8 + (i - 8) - 8 = i % 8 by omega]
 rw [if_neg h, if_neg h2, if_neg (by omega), if_pos (by omega), show 16 + (i - 16) - 16 = i % 8 by omega]
theorem wpl_bs2 {P : Program} {ops : Array Oper} {rest : List Oper} {o : Oper} {a : Act} {w : World} {Q : Exit → Act → World → Prop} (hgd : o.guard = none) (t : TypeId) (x y : Operand) (ho : o.op = .buildSlice t 2 #[(0, x), (1, y)]) (v u : Value) (hx : a.eval x = v) (hy : a.eval y = u) (e : TypeId)
  (hr : (Instr.buildSlice t 2 #[(0, v), (1, u)]).run P w = .ok (.slice (some ⟨w.heap.size, 0, none⟩) 2 2) (w.alloc (.cells #[v, u] e)))
  (h : wpList P ops Q rest (a.put o.dst (.slice (some ⟨w.heap.size, 0, none⟩) 2 2)) (w.alloc (.cells #[v, u] e))) : wpList P ops Q (o :: rest) a w := by
 refine wpList_plain hgd fun _ hK => ?_
 unfold Oper.wp execOp
 simp only [ho, List.map_toArray, List.map_cons, List.map_nil, hx, hy, hr, Sem.run_bind, Sem.run_pure, Result.andThen_ok]
 exact hK _ _ h
def IsTKey (L : Nat) : Prop := L = 8 ∨ L = 16 ∨ L = 24
end Go.Proofs.YtinejbjndpdcmaaDoor.Des
namespace Go.Proofs.YtinejbjndpdcmaaDoor.Des
open Go.ChangeShapes Go.WideShapes Go.ChangeAt Go.RowKit Mem
def swap3 (f : Nat → Nat) : Nat → Nat := fun i => if i < 8 then f (16 + i) else if i < 16 then f i else f (i - 16)
theorem swap3_of (f : Nat → Nat) (i : Nat) (hi : i < 24) : (upd (upd (upd (upd (upd (upd (upd (upd (upd (upd (upd (upd (upd (upd (upd (upd (f) 0 (f 16)) 1 (f 17)) 2 (f 18)) 3 (f 19)) 4 (f 20)) 5 (f 21)) 6 (f 22)) 7 (f 23)) 16 (f 0)) 17 (f 1)) 18 (f 2)) 19 (f 3)) 20 (f 4)) 21 (f 5)) 22 (f 6)) 23 (f 7)) i = swap3 f i := by
 have all : i = 0 ∨ i = 1 ∨ i = 2 ∨ i = 3 ∨ i = 4 ∨ i = 5 ∨ i = 6 ∨ i = 7 ∨ i = 8 ∨ i = 9 ∨ i = 10 ∨ i = 11 ∨ i = 12 ∨ i = 13 ∨ i = 14 ∨ i = 15 ∨ i = 16 ∨ i = 17 ∨ i = 18 ∨ i = 19 ∨ i = 20 ∨ i = 21 ∨ i = 22 ∨ i = 23 := by omega
 rcases all with rfl | rfl | rfl | rfl | rfl | rfl | rfl | rfl | rfl | rfl | rfl | rfl | rfl | rfl | rfl | rfl | rfl | rfl | rfl | rfl | rfl | rfl | rfl | rfl <;> rfl
end Go.Proofs.YtinejbjndpdcmaaDoor.Des
namespace Go.Proofs.YtinejbjndpdcmaaDoor.Des
open Go.ChangeShapes Go.WideShapes Go.ChangeAt Go.RowKit Mem
theorem three_at (L : Nat) (key : Nat → Nat) (k i : Nat) (hi : i < 8) : three L key (8 * k + i) = tkey L key k i := by
 unfold three
 rw [show (8 * k + i) / 8 = k by omega, show (8 * k + i) % 8 = i by omega]
theorem swap_at (L : Nat) (key : Nat → Nat) (k i : Nat) (hk : k < 3) (hi : i < 8) : swap3 (three L key) (8 * k + i) = tkey L key (2 - k) i := by
 unfold swap3
 rcases (show k = 0 ∨ k = 1 ∨ k = 2 by omega) with rfl | rfl | rfl
 ·rw [if_pos (by omega)]; have := three_at L key 2 i hi; rw [← this]; congr 1; omega
 ·rw [if_neg (by omega), if_pos (by omega)]; exact three_at L key 1 i hi
 rw [if_neg (by omega), if_neg (by omega)]; have := three_at L key 0 i hi; rw [← this]; congr 1; omega
theorem tkey_by {L : Nat} (hL : IsTKey L) {key : Nat → Nat} (h : ∀ i, i < L → key i < 256) (k : Nat) (hk : k < 3) : By8 (tkey L key k) := by
 intro i hi
 unfold tkey
 rcases hL with rfl | rfl | rfl
 ·rw [if_pos rfl]; exact h i hi
 ·rw [if_neg (by omega), if_pos rfl]; exact h _ (by omega)
 rw [if_neg (by omega), if_neg (by omega)]; exact h _ (by omega)
theorem built8z : Tryd.prog.built 57 [] = some (row 8 (b8 fun _ => 0)) := by kernel_rfl
theorem store24 {P : Program} {ops : Array Oper} {rest : List Oper} {o : Oper} {a : Act} {Q : Exit → Act → World → Prop} (hgd : o.guard = none) (ty : TypeId) (x y : Operand) (ho : o.op = .store ty x y) (v : World) (old : Array Value) (n : Nat) (f : Nat → Nat) (hx : a.eval x = .pointer (some ⟨v.heap.size, 0, none⟩)) (hy : a.eval y = .agg (row n (b8 f)))
  (t : TypeId) (hi : (P.info? ty).map (·.size) = some n) (hold : old.size = n)
  (h : wpList P ops Q rest (a.put o.dst undef) (v.alloc (.cells (row n (b8 f)) t))) : wpList P ops Q (o :: rest) a (v.alloc (.cells old t)) := wpl_store_new hgd ty x y ho v old n f hx hy t hi hold h
theorem wpl_at8 {P : Program} {ops : Array Oper} {rest : List Oper} {o : Oper} {a : Act} {w : World} {Q : Exit → Act → World → Prop} (hgd : o.guard = none) (ty : TypeId) (x ix : Operand) (ho : o.op = .indexAddr ty x ix) (g : Nat) (hx : a.eval x = .pointer (some ⟨g, 0, none⟩)) (z : Int) (hix : a.eval ix = .int .i64 z) (k : Nat) (hz : z = (k : Int))
  (n : Nat) (e : TypeId) (hu : P.underlying ty = some (.array n e)) (hk : k < n) (s : Nat) (hs : (P.info? e).map (·.size) = some s) (off : Nat) (hoff : k * s = off)
  (h : wpList P ops Q rest (a.put o.dst (.pointer (some ⟨g, off, none⟩))) w) : wpList P ops Q (o :: rest) a w := by
 subst hz; subst hoff
 refine wpList_plain hgd fun _ hK => ?_
 have hr : (Instr.indexAt ty (.pointer (some ⟨g, 0, none⟩)) (.int .i64 (k : Int))).run P w = .ok (.pointer (some ⟨g, k * s, none⟩)) w := by
  simp [Instr.indexAt, Instr.sureAddr, asIntOf, Sem.run_bind, run_underlying hu, run_size hs, show ¬ n ≤ k by omega, add_zero_off]
 unfold Oper.wp execOp
 simp only [ho, hx, hix, hr, Sem.run_bind, Sem.run_pure, Result.andThen_ok]
 exact hK _ _ h
theorem blk_mid {w : World} {g : Nat} {t : TypeId} {F : Nat → Nat} (h : Blk w g t (row 24 (b8 F))) (k : Nat) (hk : k < 3) (off : Nat) (ho : 8 * k = off) : ∀ i, i < 8 → w.cell? ⟨g, off + i, none⟩ = some (.int .u8 ((F (8 * k + i) : Nat) : Int)) := by
 subst ho; intro i hi; exact h.val _ (by omega)
section
variable {w0 wr w' : World} {hs g : Nat} {b F : Nat → Nat}
end
end Go.Proofs.YtinejbjndpdcmaaDoor.Des
