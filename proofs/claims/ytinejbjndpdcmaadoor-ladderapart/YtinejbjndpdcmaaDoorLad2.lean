/-
 ladder: what fill leaves in a terminal.
-/
import Derived.Test.YtinejbjndpdcmaaDoorDk4
set_option linter.unusedSimpArgs false
set_option linter.unusedVariables false
namespace Go.Proofs.YtinejbjndpdcmaaDoor.Lad
open Go.ChangeShapes Go.WideShapes Go.ChangeAt Go.RowKit Mem Dk
open Des (exec_loadR)
def flF (f : Nat → Bool) (m : Nat) : Nat → Bool := fun i => if i < m then true else f i
def flK (kk n : Nat → Nat) (c : Nat) (k : Nat → Nat → Nat) (m : Nat) : Nat → Nat → Nat := fun i => if i < m then stF kk (xF n (c ||| 2 ^ i)) else k i
theorem fl_step (f : Nat → Bool) (m i : Nat) : upd' (flF f m) m true i = flF f (m + 1) i := by
 unfold upd' flF
 by_cases h : i = m
 ·rw [if_pos h, if_pos (by omega)]
 rw [if_neg h]
 by_cases h1 : i < m
 ·rw [if_pos h1, if_pos (by omega)]
 rw [if_neg h1, if_neg (by omega)]
theorem flK_step (kk n : Nat → Nat) (c : Nat) (k : Nat → Nat → Nat) (m i j : Nat) : upd' (flK kk n c k m) m (stF kk (xF n (c ||| 2 ^ m))) i j = flK kk n c k (m + 1) i j := by
 unfold upd' flK
 by_cases h : i = m
 ·subst h; rw [if_pos rfl, if_pos (by omega)]
 rw [if_neg h]
 by_cases h1 : i < m
 ·rw [if_pos h1, if_pos (by omega)]
 rw [if_neg h1, if_neg (by omega)]
theorem or_fill {c m : Nat} (hc : c < 2097152) (hm : m < 21) : bits .or .i64 (c : Int) (wrap64 (2 ^ m)) = ((c ||| 2 ^ m : Nat) : Int) := by
 have h2 : 2 ^ m ≤ 2 ^ 20 := Nat.pow_le_pow_right (by omega) (by omega)
 have e : wrap64 (2 ^ m) = ((2 ^ m : Nat) : Int) := by rw [← wrap64_nat (2 ^ m) (by omega)]; simp
 rw [e, i64_or_nat _ _ (by omega) (by omega)]
theorem or_lt {c m : Nat} (hc : c < 2097152) (hm : m < 21) : c ||| 2 ^ m < 2097152 := Nat.or_lt_two_pow (n := 21) hc (Nat.pow_lt_pow_right (by omega) hm)
theorem exec_build2' {P : Program} {o : Oper} {a : Act} {w : World} (ty : TypeId) (x y : Operand) (ho : o.op = .build ty #[(0, x), (1, y)]) (vx vy : Value) (hx : a.eval x = vx) (hy : a.eval y = vy) (cs : Array Value) (hb : P.built ty [(0, vx), (1, vy)] = some cs) : (execOp a.eval o).run P w = .ok (.value (.agg cs)) w := by
 subst hx; subst hy
 have e := run_build (P := P) w ty #[(0, a.eval x), (1, a.eval y)] cs hb
 unfold execOp
 simp [ho, e]
set_option maxRecDepth 100000 in
set_option maxHeartbeats 4000000 in
theorem fill_any (b : Nat) (hb : b ≤ 21) (kk : Nat → Nat) (hkk : ∀ i, i < 16 → kk i < 256) (c : Nat) (hc : c < 2097152) (n : Nat → Nat) (hn : By10 n) (d : Nat) (f : Nat → Bool) (k : Nat → Nat → Nat) (g : Nat) (w : World) (hL : LadAt w g n d f k) :
  Calls Tryd.prog 20 #[.pointer (some ⟨g, 0, none⟩), .int .i64 b, .agg (row 16 (b8 kk)), .int .i64 c] w fun e w' => e = .returned (.tuple #[]) ∧ LadAt w' g n d (flF f b) (flK kk n c k b) ∧ Sv (· = g) w w' := by
 have Hn := hid hn
 have Hkk := hid hkk
 have Hc := hid hc
 have hg := hL.blk.lt
 have h6 : Blk (w.alloc (.cells (row 16 (b8 kk)) 27)) w.heap.size 27 (row 16 (b8 kk)) := Blk.fresh _ _ _
 have hL1 : LadAt (w.alloc (.cells (row 16 (b8 kk)) 27)) g n d f k := hL.blk.alloc _
 have hS1 := hid ((Sv.refl (· = g) w).alloc (.cells (row 16 (b8 kk)) 27))
 clear hn hkk hc hL
 go_enter Tryd.func20, Tryd.ntmps20
 go_wp2_with fail
 generalize w.alloc (.cells (row 16 (b8 kk)) 27) = w1 at *
 generalize hr6 : w.heap.size = r6 at *
 go_loopw [11] (fun i wr => ∃ m : Nat, m ≤ b ∧ i = .int .i64 m ∧ LadAt wr g n d (flF f m) (flK kk n c k m) ∧ Sv (· = g) w1 wr) (fun i _ => b - (intOf i).toNat)
 case atStart => exact ⟨0, by omega, rfl, hL1.ext (fun i _ => rfl) (fun i _ j _ => rfl), Sv.refl _ _⟩
 case round =>
  obtain ⟨m, hm, rfl, hL, hS⟩ := hrel
  clear hL1
  by_cases hlt : m < b
  ·have hm21 : m < 21 := by omega
   have hor := or_fill Hc.out hm21
   have hol := hid (or_lt Hc.out hm21)
   have hx6' := hS.blk h6 (by omega)
   have hstby := hid (fun i (hi : i < 8) => xF_lt Hn.out (c ||| 2 ^ m) i hi)
   go_wp2_with (first
    | (with_reducible refine wpl_alloc rfl 28 rfl _ z10 ?_)
    | (go_at_call 22; refine (num_any n Hn.out d _ _ (c ||| 2 ^ m) hol.out g _ hL).mono ?_; rintro e w5 ⟨rfl, hB5⟩; have hL5 := hL.blk.below hB5 hL.blk.lt; have hS5 := hS.call hB5; have h65 := hx6'.below hB5 hx6'.lt; have hl5 := hid (Nat.lt_of_lt_of_le hL.blk.lt hB5.size); clear hL hS hB5 hx6'; go_simp)
    | (with_reducible refine wpl_store_newg rfl 28 _ _ rfl _ _ 10 _ _ rfl rfl rfl 28 i10 (row_size _ _) ?_))
   have hL6 := LadAt.blk (hL5.alloc (.cells (row 10 (b8 (atF n (c ||| 2 ^ m)))) 28))
   have h66 := h65.alloc (.cells (row 10 (b8 (atF n (c ||| 2 ^ m)))) 28)
   have hx9 : Blk (w5.alloc (.cells (row 10 (b8 (atF n (c ||| 2 ^ m)))) 28)) w5.heap.size 28 (row 10 (b8 (atF n (c ||| 2 ^ m)))) := Blk.fresh _ _ _
   have hS6 := hS5.alloc (.cells (row 10 (b8 (atF n (c ||| 2 ^ m)))) 28)
   clear hL5 hS5 h65 hor
   have hl6 := hl5.out
   clear hl5
   generalize w5.alloc (.cells (row 10 (b8 (atF n (c ||| 2 ^ m)))) 28) = w6 at *
   generalize w5.heap.size = r9 at *
   refine wp_region_held_drew (S := fun W => Sv (· = g) w6 W) (by kernel_rfl) (Sv.refl _ _).drew (fun hS0 => ?_)
   refine ztk (i := 0) (v := .pointer (some ⟨g, 0, none⟩)) rfl (fun _ _ => exec_move _ rfl _ rfl) hS0 ?_
   (try simp only [Act.put,zza,zzb,zzc,zzd,zze,zzf])
   refine ztk (i := 1) (v := .int .i64 m) rfl (fun _ _ => exec_move _ rfl _ rfl) hS0 ?_
   (try simp only [Act.put,zza,zzb,zzc,zzd,zze,zzf])
   refine ztk (i := 2) (v := .agg (row 16 (b8 kk))) rfl (fun W hW => Des.exec_loadR 27 _ rfl ⟨r6, 0, none⟩ rfl 16 _ (fun i hi => by rw [Addr.add_lit, Nat.zero_add]; exact (hW.blk h66 (by omega)).val i hi) 5 Tryd.underlying27 i16) hS0 ?_
   (try simp only [Act.put,zza,zzb,zzc,zzd,zze,zzf])
   refine ztk (i := 3) (v := .slice (some ⟨r9, 2, none⟩) 8 8) rfl (fun W _ => by go_simp) hS0 ?_
   (try simp only [Act.put,zza,zzb,zzc,zzd,zze,zzf])
   refine ztk (i := 4) (v := .pointer (some ⟨r9, 2, none⟩)) rfl (fun W _ => Des.exec_arr 57 _ rfl _ _ _ rfl 8 5 Tryd.underlying57 (by omega)) hS0 ?_
   (try simp only [Act.put,zza,zzb,zzc,zzd,zze,zzf])
   refine ztk (i := 5) (v := .agg (row 8 (b8 (xF n (c ||| 2 ^ m))))) rfl (fun W hW => Des.exec_loadR 57 _ rfl ⟨r9, 2, none⟩ rfl 8 _ (fun i hi => by rw [Addr.add_lit]; exact (hW.blk hx9 (by omega)).val (2 + i) (by omega)) 5 Tryd.underlying57 i8a) hS0 ?_
   (try simp only [Act.put,zza,zzb,zzc,zzd,zze,zzf])
   refine ztk (i := 8) (v := .pointer (some ⟨g, 0, none⟩)) rfl (fun W _ => by go_simp) hS0 ?_
   (try simp only [Act.put,zza,zzb,zzc,zzd,zze,zzf])
   refine ztk (i := 9) (v := .pointer (some ⟨g, 11, none⟩)) rfl (fun W _ => by go_simp) hS0 ?_
   (try simp only [Act.put,zza,zzb,zzc,zzd,zze,zzf])
   refine wpAnyH_ready (rs := [6]) (by kernel_rfl) (by simp) (AllReadyH.cons rfl (fun K hK => ?_) AllReadyH.nil)
   (try simp only [Act.put,zza,zzb,zzc,zzd,zze,zzf])
   refine Eq.mpr (if_pos (by rfl)) ?_
   go_simp
   refine (step_any _ _ Hkk.out hstby.out _).mono ?_
   rintro e w7 ⟨rfl, hB7⟩
   go_simp
   have hL7 := LadAt.blk (hL6.below (w := w6.drew) hB7 hL6.lt)
   have hS7 := hS0.call hB7
   refine hK.out _ _ hS7 (fun _ => ?_)
   (try simp only [Act.put,zza,zzb,zzc,zzd,zze,zzf])
   clear hK K
   refine ztk (i := 7) (v := .agg (row 17 (gcell true (stF kk (xF n (c ||| 2 ^ m)))))) rfl (fun _ _ => exec_build2' 49 _ _ rfl (.bool true) (.agg (row 16 (b8 (stF kk (xF n (c ||| 2 ^ m)))))) rfl rfl _ (builtReg _ _)) hS7 ?_
   (try simp only [Act.put,zza,zzb,zzc,zzd,zze,zzf])
   refine ztk (i := 10) (v := .pointer (some ⟨g, 11 + m * 17, none⟩)) rfl (fun W _ => by rw [← addr_lit g 11 (m * 17)]; exact exec_iat 50 _ _ rfl ⟨g, 11, none⟩ rfl .i64 _ rfl m rfl 21 49 Tryd.underlying50 hm21 17 ireg) hS7 ?_
   (try simp only [Act.put,zza,zzb,zzc,zzd,zze,zzf])
   refine wpAnyH_ready (rs := [11]) (by kernel_rfl) (by simp) (AllReadyH.cons rfl (fun K hK => ?_) AllReadyH.nil)
   (try simp only [Act.put,zza,zzb,zzc,zzd,zze,zzf])
   refine Eq.mpr (if_pos (by rfl)) ?_
   with_reducible refine wp_store_seg 49 _ _ rfl g (11 + m * 17) 52 368 17 _ _ rfl rfl hL7 ireg (by omega) (fun i _ => gcell_one _ _ i) ?_
   (try simp only [Act.put,zza,zzb,zzc,zzd,zze,zzf])
   have hL8 := LadAt.set (n := n) (c := d) (f := flF f m) (k := flK kk n c k m) hL7 m true (stF kk (xF n (c ||| 2 ^ m)))
   have hS8 := hS7.setRow g (Or.inl rfl) (row 368 (fun j => if 11 + m * 17 ≤ j ∧ j < 11 + m * 17 + 17 then gcell true (stF kk (xF n (c ||| 2 ^ m))) (j - (11 + m * 17)) else lcell n d (flF f m) (flK kk n c k m) j))
   refine hK.out _ _ hS8 (fun _ => ?_)
   (try simp only [Act.put,zza,zzb,zzc,zzd,zze,zzf])
   clear hK K
   refine wpAnyH_done (by kernel_rfl) ?_ _
   have hSe := hS6.trans hS8
   clear hS0 hS7 hS6 hS8 hL7 hL6
   go_wp2_with fail
   exact ⟨⟨m + 1, by omega, val_int (by omega), hL8.ext (fun i hi => fl_step f m i) (fun i hi j _ => flK_step kk n c k m i j), hSe⟩, by simp [intOf]; omega⟩
  obtain rfl : m = b := by omega
  have hSe := hS1.out.trans hS
  go_wp2_with fail
  go_end0
  exact ⟨rfl, hL, hSe⟩
end Go.Proofs.YtinejbjndpdcmaaDoor.Lad
