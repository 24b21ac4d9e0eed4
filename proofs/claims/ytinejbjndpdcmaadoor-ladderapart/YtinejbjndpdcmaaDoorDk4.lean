/-
 dukpt: what Derive returns: the key of a number's counter.
-/
import Derived.Test.YtinejbjndpdcmaaDoorDk3
import Derived.Test.YtinejbjndpdcmaaDoorLad1
set_option linter.unusedSimpArgs false
set_option linter.unusedVariables false
namespace Go.Proofs.YtinejbjndpdcmaaDoor.Dk
open Go.ChangeShapes Go.WideShapes Go.ChangeAt Go.RowKit Mem Lad
def xF (n : Nat → Nat) (c : Nat) : Nat → Nat := fun i => atF n c (2 + i)
theorem xF_lt {n : Nat → Nat} (hn : By10 n) (c : Nat) : ∀ i, i < 8 → xF n c i < 256 := fun i hi => atF_lt hn c (2 + i) (by omega)
theorem dk_by {k n : Nat → Nat} (hk : ∀ i, i < 16 → k i < 256) (c : Nat) : ∀ j, ∀ i, i < 16 → dk stF (xF n) k c j i < 256 := fun j => by
 induction j with
 | zero => exact hk
 | succ j ih =>
  rw [dk]; split
  ·exact stF_lt ih
  exact ih
def drF (k n : Nat → Nat) : Nat → Nat := dkey stF (xF n) k (cnt n)
def ahF (c j : Nat) : Nat := c / 2 ^ (21 - j) * 2 ^ (21 - j)
theorem ah_zero {c : Nat} (hc : c < 2097152) : ahF c 0 = 0 := by unfold ahF; rw [Nat.div_eq_of_lt (by simpa using hc), Nat.zero_mul]
theorem ah_step {c j : Nat} (hj : j < 21) : ahF c (j + 1) = ahF c j + c / 2 ^ (20 - j) % 2 * 2 ^ (20 - j) := by
 unfold ahF
 have e : 2 ^ (21 - j) = 2 ^ (20 - j) * 2 := by rw [← Nat.pow_succ]; congr 1; omega
 rw [show 21 - (j + 1) = 20 - j by omega, e, ← Nat.div_div_eq_div_mul]
 generalize c / 2 ^ (20 - j) = q
 rw [Nat.mul_comm (2 ^ (20 - j)) 2, ← Nat.mul_assoc, ← Nat.add_mul]
 congr 1; omega
theorem ah_lt {c : Nat} (hc : c < 2097152) (j : Nat) : ahF c j < 2097152 := Nat.lt_of_le_of_lt (Nat.div_mul_le_self _ _) hc
theorem ah_or {c j : Nat} (hj : j < 21) (h : c / 2 ^ (20 - j) % 2 = 1) : ahF c j ||| 2 ^ (20 - j) = ahF c (j + 1) := by
 rw [ah_step hj, h, Nat.one_mul]
 have e : ahF c j = c / 2 ^ (21 - j) * 2 * 2 ^ (20 - j) := by
  unfold ahF
  rw [show 21 - j = 20 - j + 1 by omega, Nat.pow_succ (2) (20 - j), Nat.mul_assoc, Nat.mul_comm 2]
 rw [e, Nat.mul_comm]
 generalize c / 2 ^ (21 - j) = q
 have := Nat.two_pow_add_eq_or_of_lt (i := 20 - j + 1) (b := 2 ^ (20 - j)) (Nat.pow_lt_pow_right (by omega) (by omega)) q
 rw [show 2 ^ (20 - j) * (q * 2) = 2 ^ (20 - j + 1) * q by rw [Nat.pow_succ, Nat.mul_comm q 2, Nat.mul_assoc]]
 exact this.symm
theorem bit_is {c : Nat} (hc : c < 2097152) (p b : Nat) (h : c / 2 ^ p % 2 = b) : bits .and .i64 ((c : Int) / 2 ^ p) 1 = (b : Int) := by
 have e : ((c : Int) / 2 ^ p) = ((c / 2 ^ p : Nat) : Int) := by simp
 rw [e, i64_and_one _ (Nat.lt_of_le_of_lt (Nat.div_le_self _ _) (by omega)), h]
theorem or_is {c j : Nat} (hc : c < 2097152) (hj : j < 21) (h : c / 2 ^ (20 - j) % 2 = 1) : bits .or .i64 ((ahF c j : Nat) : Int) (wrap64 (2 ^ (20 - j))) = ((ahF c (j + 1) : Nat) : Int) := by
 have h2 : 2 ^ (20 - j) ≤ 2 ^ 20 := Nat.pow_le_pow_right (by omega) (by omega)
 have h3 := ah_lt hc j
 have e : wrap64 (2 ^ (20 - j)) = ((2 ^ (20 - j) : Nat) : Int) := by rw [← wrap64_nat (2 ^ (20 - j)) (by omega)]; simp
 rw [e, i64_or_nat _ _ (by omega) (by omega), ah_or hj h]
theorem wp_valD {P : Program} {o : Oper} {a : Act} {w w' : World} {K : Act → World → Prop} {Q : Exit → Act → World → Prop} (v : Value) (hr : (execOp a.eval o).run P w = .ok (.value v) w') (h : K (a.put o.dst v) w') : o.wp P a w K Q := by
 unfold Oper.wp
 rw [hr]
 exact h
theorem dk_one {k n : Nat → Nat} {c j : Nat} (hj : j < 21) (h : c / 2 ^ (20 - j) % 2 = 1) : stF (dk stF (xF n) k c j) (xF n (ahF c (j + 1))) = dk stF (xF n) k c (j + 1) := by
 rw [dk, if_pos h]
 unfold ahF
 rw [show 21 - (j + 1) = 20 - j by omega]
theorem dk_none {k n : Nat → Nat} {c j : Nat} (h : ¬ c / 2 ^ (20 - j) % 2 = 1) : dk stF (xF n) k c j = dk stF (xF n) k c (j + 1) := by
 rw [dk, if_neg h]
theorem ah_none {c j : Nat} (hj : j < 21) (h : ¬ c / 2 ^ (20 - j) % 2 = 1) : ahF c j = ahF c (j + 1) := by
 rw [ah_step hj, show c / 2 ^ (20 - j) % 2 = 0 by omega]; omega
set_option maxRecDepth 100000 in
set_option maxHeartbeats 4000000 in
theorem derive_ok (k n : Nat → Nat) (hk : ∀ i, i < 16 → k i < 256) (hn : By10 n) (hs : ¬ 10 < Pop.ones 24 (cnt n)) (w : World) :
  Calls Tryd.prog 13 #[.agg (row 16 (b8 k)), .agg (row 10 (b8 n))] w fun e w' => e = .returned (.tuple #[.agg (row 16 (b8 (drF k n))), .nilIface]) ∧ Below w.heap.size w w' := by
 have Hn := hid hn
 have Hk := hid hk
 have hc := cnt_lt hn
 have hb1 : Blk (((w.alloc (.cells (row 16 (b8 k)) 27)).alloc (.cells (row 10 (b8 n)) 28)).alloc (.cells (row 16 (b8 fun _ => 0)) 27)) w.heap.size 27 (row 16 (b8 k)) := ((Blk.fresh _ _ _).alloc _).alloc _
 have hb2 : Blk (((w.alloc (.cells (row 16 (b8 k)) 27)).alloc (.cells (row 10 (b8 n)) 28)).alloc (.cells (row 16 (b8 fun _ => 0)) 27)) (w.heap.size + 1) 28 (row 10 (b8 n)) := (Des.two_new _ _ _ _).alloc _
 have hb3 : Blk (((w.alloc (.cells (row 16 (b8 k)) 27)).alloc (.cells (row 10 (b8 n)) 28)).alloc (.cells (row 16 (b8 fun _ => 0)) 27)) (w.heap.size + 1 + 1) 27 (row 16 (b8 fun _ => 0)) := by simpa using Blk.fresh ((w.alloc (.cells (row 16 (b8 k)) 27)).alloc (.cells (row 10 (b8 n)) 28)) 27 (row 16 (b8 fun _ => 0))
 have hB : Below w.heap.size w (((w.alloc (.cells (row 16 (b8 k)) 27)).alloc (.cells (row 10 (b8 n)) 28)).alloc (.cells (row 16 (b8 fun _ => 0)) 27)) := (((Below.refl _ _).alloc (Nat.le_refl _) _).alloc (by simp) _).alloc (by simp; omega) _
 have hcnt := hid (counter_any n hn)
 have hones := ones_any (cnt n) (by omega)
 have hw : Hid (IntKind.u64.wrap (cnt n : Int) = ((cnt n : Nat) : Int)) := hid (Des.u64_wrap (cnt n) (by omega) _ rfl)
 have hdr : Hid (dk stF (xF n) k (cnt n) 21 = drF k n) := hid rfl
 have Hc := hid hc
 clear hn hk hc
 generalize cnt n = c at *
 generalize Pop.ones 24 c = o at *
 have hd : decide ((10 : Int) < (o : Int)) = false := decide_eq_false (by omega)
 clear hs
 go_enter Tryd.func13, Tryd.ntmps13
 go_wp2_with (first
  | (with_reducible refine wpl_alloc rfl 27 rfl _ z16 ?_)
  | (with_reducible refine wpl_load rfl 28 _ rfl _ rfl 28 _ hb2 10 5 Tryd.underlying28 (i10' _) ?_)
  | (with_reducible refine wpl_load rfl 27 _ rfl _ rfl 27 _ hb1' 16 5 Tryd.underlying27 (i16' _) ?_)
  | (go_at_call 23; refine (hcnt.out _).mono ?_; rintro e w3 ⟨rfl, hB3⟩; have hb1' := hb1.below hB3 hb1.lt; have hb2' := hid (hb2.below hB3 hb2.lt); have hb3' := hid (hb3.below hB3 hb3.lt); have hBe := hid (hB.trans (hB3.mono hB.size)); have hlt3 := hid (Nat.lt_of_lt_of_le hb3.lt hB3.size); clear hb1 hb2 hb3 hB hB3; go_simp)
  | (go_at_call 19; (try rw [hw.out]); refine (hones _).mono ?_; rintro e w4 ⟨rfl, rfl⟩; go_simp)
  | (with_reducible refine wpl_store_newg rfl 27 _ _ rfl _ _ 16 _ _ rfl rfl rfl 27 i16 (row_size _ _) ?_))
 have h7 : Blk (w3.alloc (Obj.cells (row 16 (b8 k)) 27)) w3.heap.size 27 (row 16 (b8 k)) := Blk.fresh _ _ _
 have H2 := hid (hb2'.out.alloc (Obj.cells (row 16 (b8 k)) 27))
 have H3 := hid (hb3'.out.alloc (Obj.cells (row 16 (b8 k)) 27))
 have HB := hid (hBe.out.alloc (by have := hlt3.out; omega) (Obj.cells (row 16 (b8 k)) 27))
 have h0 := ah_zero Hc.out
 clear hb1' hb2' hb3' hBe hcnt hones hw hd
 generalize w3.alloc (Obj.cells (row 16 (b8 k)) 27) = w4 at *
 generalize hr7 : w3.heap.size = r7 at *
 go_loopw [8, 9] (fun a p wr => ∃ j : Nat, j ≤ 21 ∧ a = .int .i64 (ahF c j : Nat) ∧ p = .int .i64 (20 - (j : Int)) ∧ Blk wr r7 27 (row 16 (b8 (dk stF (xF n) k c j))) ∧ Sv (· = r7) w4 wr) (fun _ p _ => (intOf p + 1).toNat)
 case atStart => exact ⟨0, by omega, by rw [h0]; rfl, rfl, h7, Sv.refl _ _⟩
 case round =>
  obtain ⟨j, hj, rfl, rfl, hK, hS⟩ := hrel
  clear h7 h0
  by_cases hlt : j < 21
  ·have hsh : ((20 : Int) - (j : Int)).toNat = 20 - j := by omega
   have hal := ah_lt Hc.out j
   by_cases hbt : c / 2 ^ (20 - j) % 2 = 1
   ·have hb1 : bits .and .i64 ((c : Int) / 2 ^ (20 - j)) 1 = 1 := bit_is Hc.out _ 1 hbt
    have hor := or_is Hc.out hlt hbt
    have Hdk := hid (dk_one (k := k) (n := n) hlt hbt)
    clear hbt
    have H2r := hS.blk H2.out (by have := hlt3.out; omega)
    have hdby := hid (dk_by (n := n) Hk.out c j)
    go_wp2_with (first
     | (with_reducible refine wpl_load rfl 28 _ rfl _ rfl 28 _ H2r 10 5 Tryd.underlying28 (i10' _) ?_)
     | (with_reducible refine wpl_alloc rfl 28 rfl _ z10 ?_)
     | (go_at_call 14; refine (at_any n Hn.out (ahF c (j + 1)) (ah_lt Hc.out _) _).mono ?_; rintro e w5 ⟨rfl, hB5⟩; have hK5 := hK.below hB5 hK.lt; have hS5 := hS.call hB5; have hl5 := hid (Nat.lt_of_lt_of_le hK.lt hB5.size); clear H2r hK hS hB5; go_simp)
     | (with_reducible refine wpl_store_newg rfl 28 _ _ rfl _ _ 10 _ _ rfl rfl rfl 28 i10 (row_size _ _) ?_))
    have hK6 := hK5.alloc (.cells (row 10 (b8 (atF n (ahF c (j + 1))))) 28)
    have hx6 : Blk (w5.alloc (.cells (row 10 (b8 (atF n (ahF c (j + 1))))) 28)) w5.heap.size 28 (row 10 (b8 (atF n (ahF c (j + 1))))) := Blk.fresh _ _ _
    have hS6 := hS5.alloc (.cells (row 10 (b8 (atF n (ahF c (j + 1))))) 28)
    clear hK5 hS5 hor
    have hl6 := hl5.out
    clear hl5
    generalize w5.alloc (.cells (row 10 (b8 (atF n (ahF c (j + 1))))) 28) = w6 at *
    generalize w5.heap.size = g at *
    refine wp_region_held_drew (S := fun W => Sv (· = r7) w6 W ∧ ∃ z, Blk W r7 27 (row 16 (b8 z))) (by kernel_rfl) ⟨(Sv.refl _ _).drew, _, hK6⟩ (fun hS0 => ?_)
    refine ztk (i := 1) (v := .slice (some ⟨g, 2, none⟩) 8 8) rfl (fun W _ => by go_simp) hS0 ?_
    (try simp only [Act.put,zza,zzb,zzc,zzd,zze,zzf])
    refine ztk (i := 2) (v := .pointer (some ⟨g, 2, none⟩)) rfl (fun W _ => Des.exec_arr 57 _ rfl _ _ _ rfl 8 5 Tryd.underlying57 (by omega)) hS0 ?_
    (try simp only [Act.put,zza,zzb,zzc,zzd,zze,zzf])
    refine ztk (i := 3) (v := .agg (row 8 (b8 (xF n (ahF c (j + 1)))))) rfl (fun W hW => Des.exec_loadR 57 _ rfl ⟨g, 2, none⟩ rfl 8 _ (fun i hi => by rw [Addr.add_lit]; exact (hW.1.blk hx6 (by omega)).val (2 + i) (by omega)) 5 Tryd.underlying57 i8a) hS0 ?_
    (try simp only [Act.put,zza,zzb,zzc,zzd,zze,zzf])
    refine wpAnyH_ready (rs := [0]) (by kernel_rfl) (by simp) (AllReadyH.cons rfl (fun K hK => ?_) AllReadyH.nil)
    (try simp only [Act.put,zza,zzb,zzc,zzd,zze,zzf])
    refine Eq.mpr (if_pos (by rfl)) ?_
    refine wp_valD (.agg (row 16 (b8 (dk stF (xF n) k c j)))) (Des.exec_loadR 27 _ rfl ⟨r7, 0, none⟩ rfl 16 _ (fun i hi => by rw [Addr.add_lit, Nat.zero_add]; exact hK6.val i hi) 5 Tryd.underlying27 i16) ?_
    (try simp only [Act.put,zza,zzb,zzc,zzd,zze,zzf])
    refine hK.out _ _ hS0 (fun hS1 => ?_)
    (try simp only [Act.put,zza,zzb,zzc,zzd,zze,zzf])
    clear hK K
    refine wpAnyH_ready (rs := [4]) (by kernel_rfl) (by simp) (AllReadyH.cons rfl (fun K hK => ?_) AllReadyH.nil)
    (try simp only [Act.put,zza,zzb,zzc,zzd,zze,zzf])
    refine Eq.mpr (if_pos (by rfl)) ?_
    go_simp
    refine (step_any _ _ hdby.out (xF_lt Hn.out _) _).mono ?_
    rintro e w7 ⟨rfl, hB7⟩
    rw [Hdk.out]
    go_simp
    have hl7 : r7 < w6.drew.heap.size := hK6.lt
    have hK7 := Blk.below (w := w6.drew) hK6 hB7 hl7
    refine hK.out _ _ ⟨hS1.1.call hB7, _, hK7⟩ (fun hS2 => ?_)
    (try simp only [Act.put,zza,zzb,zzc,zzd,zze,zzf])
    clear hK K
    refine wpAnyH_ready (rs := [5]) (by kernel_rfl) (by simp) (AllReadyH.cons rfl (fun K hK => ?_) AllReadyH.nil)
    (try simp only [Act.put,zza,zzb,zzc,zzd,zze,zzf])
    refine Eq.mpr (if_pos (by rfl)) ?_
    with_reducible refine wp_store_blk 27 _ _ rfl r7 _ rfl rfl 27 _ hK7 (i16' _) (by simp [row_size]) (one_b8 _ _) ?_
    (try simp only [Act.put,zza,zzb,zzc,zzd,zze,zzf])
    have hK8 := hK7.setRow (row 16 (b8 (dk stF (xF n) k c (j + 1))))
    have hS8 := hS2.1.setRow r7 (Or.inl rfl) (row 16 (b8 (dk stF (xF n) k c (j + 1))))
    refine hK.out _ _ ⟨hS8, _, hK8⟩ (fun hS3 => ?_)
    (try simp only [Act.put,zza,zzb,zzc,zzd,zze,zzf])
    clear hK K
    refine wpAnyH_done (by kernel_rfl) ?_ _
    have hSe := hS6.trans hS8
    clear hS0 hS1 hS2 hS3 hS6 hS8
    go_wp2_with fail
    exact ⟨⟨j + 1, by omega, rfl, val_int (by omega), hK8, hSe⟩, by simp [intOf]; omega⟩
   have hb1 : bits .and .i64 ((c : Int) / 2 ^ (20 - j)) 1 = 0 := bit_is Hc.out _ 0 (by omega)
   have Hah := hid (ah_none hlt hbt)
   have Hdk := hid (dk_none (k := k) (n := n) hbt)
   clear hbt
   go_wp2_with fail
   exact ⟨⟨j + 1, by omega, by rw [← Hah.out], val_int (by omega), by rw [← Hdk.out]; exact hK, hS⟩, by simp [intOf]; omega⟩
  obtain rfl : j = 21 := by omega
  rw [hdr.out] at hK
  have H3r := hS.blk H3.out (by have := hlt3.out; omega)
  have HBe := hid (hS.below HB.out (fun q hq => by have := hlt3.out; omega) HB.out.size)
  go_wp2_with (first
   | (with_reducible refine wpl_load rfl 27 _ rfl _ rfl 27 _ hK 16 5 Tryd.underlying27 (i16' _) ?_)
   | (with_reducible refine wpl_store rfl 27 _ _ rfl _ _ rfl rfl 27 _ H3r (i16' _) (by simp [row_size]) (one_b8 _ _) ?_))
  exact ret_row_tmp Tryd.results13 rfl (w.heap.size + 1 + 1) rfl _ rfl 27 16 _ (H3r.setRow _) 5 Tryd.underlying27 i16 ⟨rfl, below_setRow' HBe.out (by omega) _⟩
end Go.Proofs.YtinejbjndpdcmaaDoor.Dk
