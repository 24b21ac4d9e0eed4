/-
 What lockboxref06.Do returns: alone, forth and back; chained, back.
-/
import Derived.Test.YtlmnoapoofmmnaaGreatDoorRefY
namespace Go.Proofs.YtlmnoapoofmmnaaGreatDoor.R6
open Mem Bk Md Go.ChangeShapes Go.WideShapes Go.ChangeAt Go.RowKit
set_option maxRecDepth 100000 in
set_option maxHeartbeats 4000000 in
set_option linter.unusedSimpArgs false in
theorem rmode_alonef (p : Pl) (k d Lk : Nat) (R : List Rw) (Ar : Option Addr) (cr : Nat) (At : Option Addr) (ct : Nat) (Ak : Option Addr) (ck : Nat) (key : Nat → Nat) (s : Nat → Nat) (A : Option Addr) (M c N : Nat) (x : Nat → Nat) (w : World)
  (hf : fits k Lk) (hDo : DoC p k Lk Ak ck key false) (hI : Inv p.F p.n R d) (hRr : RowsAt w w.heap.size Ar Lk R) (hT : Reads w w.heap.size At (p.n - d) (fun i => p.F (d + i))) (hct : p.n - d ≤ ct) (hlen : R.length + N ≤ 1000) (hkey : Reads w w.heap.size Ak Lk key) (hkb : ∀ i, i < Lk → key i < 256) (hAr : Ar = none → R.length = 0 ∧ cr = 0)
  (hM : M = N * sz k) (hM1 : M ≤ 1000) (hc : M ≤ c) (hx : ∀ i, i < M → x i < 256) (hR : Reads w w.heap.size A M x) :
  Calls Tryz.prog 12 #[.int .i64 (k : Int), .slice Ak Lk ck, .agg (row 2 (bookC (.slice Ar R.length cr) (.slice At (p.n - d) ct))), .slice none 0 0, .slice A M c, .bool false] w (RMode p k Lk key false false x N ⟨R, d, s, fun _ => 0⟩ w) := by
 have hkk := fits_kind hf
 obtain ⟨hs1, hs2⟩ := sz_pos k
 have hn65 := hI.hn
 have hB0 : Below w.heap.size w ((w.alloc (.cells (row 2 (bookC (.slice Ar R.length cr) (.slice At (p.n - d) ct))) 37)).alloc (.cells (row 2 (bookC (.slice none 0 0) (.slice none 0 0))) 37)) := ((Below.refl _ _).alloc (Nat.le_refl _) _).alloc (by simp) _
 have h8 : Blk ((w.alloc (.cells (row 2 (bookC (.slice Ar R.length cr) (.slice At (p.n - d) ct))) 37)).alloc (.cells (row 2 (bookC (.slice none 0 0) (.slice none 0 0))) 37)) w.heap.size 37 (row 2 (bookC (.slice Ar R.length cr) (.slice At (p.n - d) ct))) := (Blk.fresh _ _ _).alloc _
 have h12 : Blk ((w.alloc (.cells (row 2 (bookC (.slice Ar R.length cr) (.slice At (p.n - d) ct))) 37)).alloc (.cells (row 2 (bookC (.slice none 0 0) (.slice none 0 0))) 37)) (w.heap.size + 1) 37 (row 2 (bookC (.slice none 0 0) (.slice none 0 0))) := by
  have := Blk.fresh (w.alloc (.cells (row 2 (bookC (.slice Ar R.length cr) (.slice At (p.n - d) ct))) 37)) 37 (row 2 (bookC (.slice none 0 0) (.slice none 0 0)))
  simpa using this
 have hz : ((w.alloc (.cells (row 2 (bookC (.slice Ar R.length cr) (.slice At (p.n - d) ct))) 37)).alloc (.cells (row 2 (bookC (.slice none 0 0) (.slice none 0 0))) 37)).heap.size = w.heap.size + 2 := by simp
 have HR0 := hid (rows_off0 hRr hB0)
 have HT0 := hid (reads_off0 hT hB0)
 have HKw := hid hkey
 have HXw := hid hR
 have HM := hid hM
 have Hx := hid hx
 have Hkb := hid hkb
 have HAr := hid hAr
 have HI := hid hI
 have HB0 := hid hB0
 have H8 := hid h8
 have H12 := hid h12
 have HSZ := hid (rsize_any k hkk)
 clear hRr hT hkey hR hM hx hkb hAr hI hB0 h8 h12
 go_enter Tryz.func12, Tryz.ntmps12
 go_wp2_with (first
  | (with_reducible refine wpl_alloc rfl 37 rfl _ zRB2 ?_)
  | (go_at_call 10; refine (HSZ.out _).mono ?_; rintro e wa ⟨rfl, rfl⟩))
 generalize ((w.alloc (.cells (row 2 (bookC (.slice Ar R.length cr) (.slice At (p.n - d) ct))) 37)).alloc (.cells (row 2 (bookC (.slice none 0 0) (.slice none 0 0))) 37)) = w1 at *
 go_loopw [16, 17, 18, 19, 20, 21, 22] (fun _ ov iv _ _ _ _ wr => ∃ (j q : Nat) (st : MS) (Ar1 : Option Addr) (cr1 : Nat) (At1 : Option Addr) (ct1 : Nat), j ≤ N ∧ Hid (q = j * sz k) ∧ q ≤ M ∧ iv = .int .i64 (q : Int) ∧ mAt p k Lk key false false x ⟨R, d, s, fun _ => 0⟩ j = some st ∧ st.R.length ≤ R.length + j ∧ Hid (Inv p.F p.n st.R st.d) ∧ p.n - st.d ≤ ct1 ∧ Hid (RowsAtP wr (offV w.heap.size wr ov) Ar1 Lk st.R) ∧ Hid (ReadsP wr (offV w.heap.size wr ov) At1 (p.n - st.d) (fun i => p.F (st.d + i))) ∧ Hid (Ar1 = none → st.R.length = 0 ∧ cr1 = 0) ∧ Hid (Blk wr w.heap.size 37 (row 2 (bookC (.slice Ar1 st.R.length cr1) (.slice At1 (p.n - st.d) ct1)))) ∧ Hid (Blk wr (w.heap.size + 1) 37 (row 2 (bookC (.slice none 0 0) (.slice none 0 0)))) ∧ Hid (Mem.Own wr (w.heap.size + 2) 5 1 ov q st.out) ∧ Hid (Below w.heap.size w wr) ∧ w.heap.size + 2 ≤ wr.heap.size) (fun _ _ iv _ _ _ _ _ => M - (intOf iv).toNat)
 case atStart => exact ⟨0, 0, ⟨R, d, s, fun _ => 0⟩, Ar, cr, At, ct, by omega, hid (by simp), by omega, rfl, rfl, by simp, HI, hct, HR0, HT0, HAr, H8, H12, hid (Mem.Own.nil _ _ _ _ _), HB0, by omega⟩
 case round =>
  clear H8 H12 HR0 HT0 HB0 HI HAr hct hz
  obtain ⟨j, q, st, Ar1, cr1, At1, ct1, hj, hq, hqM, rfl, hst, hRl, HI, hct, HRw, HT, HAr, H8, H12, HO, HB, hsz⟩ := hrel
  obtain ⟨Ao, co, rfl, hco, -⟩ := HO.out.slice'
  have Hst := hid hst
  clear hst
  by_cases hlt : j < N
  ·have hqn : q + sz k ≤ M := by
    have := Nat.mul_le_mul_right (sz k) (show j + 1 ≤ N from hlt)
    rw [Nat.succ_mul, ← hq.out, ← HM.out] at this
    exact this
   have hqI : (q : Int) + (sz k : Int) ≤ (M : Int) := by omega
   obtain ⟨ad, rfl, had, hcs⟩ := HXw.out (by omega)
   have hxb : Hid (∀ i, i < sz k → tb k x j i < 256) := hid (fun i hi => by unfold tb; rw [← hq.out]; exact Hx.out _ (by omega))
   have HXb : Hid (∀ W, Below w.heap.size w W → Reads W W.heap.size (some (ad.add q)) (sz k) (tb k x j)) := hid (fun W hW _ => ⟨_, rfl, by rw [add_block]; exact Nat.lt_of_lt_of_le had hW.size, fun i hi => by
    rw [add_add]
    unfold tb
    rw [← hq.out]
    exact (hW.cell (p := ad.add (q + i)) (by rw [add_block]; exact had)).trans (hcs _ (by omega))⟩)
   clear hcs
   have hao : ask6 k false false x j st = tb k x j := by unfold ask6; rw [if_neg (by simp)]
   obtain ⟨wx, hwx⟩ : ∃ W, W = wr := ⟨_, rfl⟩
   subst hwx
   have hBx : Below wx.heap.size wx wx := Below.refl _ _
   have hain : Hid (Reads wx wx.heap.size (some (ad.add q)) (sz k) (ask6 k false false x j st)) := hid (by rw [hao]; exact HXb.out _ HB.out)
   have hainb : Hid (∀ i, i < sz k → ask6 k false false x j st i < 256) := hid (fun i hi => by rw [hao]; exact hxb.out i hi)
   clear hao
   have H8x := hid (H8.out.below hBx H8.out.lt)
   have H12x := hid (H12.out.below hBx H12.out.lt)
   have HRx := hid (rows_offB HRw.out hBx)
   have HTx := hid (reads_offB HT.out hBx)
   have HOx := hid (HO.out.below hBx (Nat.le_refl _))
   have HBx := hid (HB.out.trans (hBx.mono HB.out.size))
   have hszx := hBx.size
   have hbx : w.heap.size < wx.heap.size := by omega
   have hvx : Hid (∀ g, (Value.slice Ao q co).ownBlock = some g → w.heap.size + 2 ≤ g ∧ g < wx.heap.size) := hid (fun g hg => World.ownsRow.lt HOx.out g hg)
   have HKx := hid ((HKw.out.below HBx.out).more HBx.out.size)
   rcases ht : turnC k Lk key p st.R st.d false (ask6 k false false x j st) with ⟨o, R2, d2⟩
   obtain ⟨hI2, hyb, -, hl2⟩ := turn_inv hf Hkb.out HI.out hainb.out ht
   have HTu := hid ht
   have HI2 := hid hI2
   have hd2 := hI2.hd
   have hl2 := len_le hl2
   have Hyb := hid hyb
   clear ht hI2 hyb hBx H8 H12 HRw HT HO HB
   go_wp2_with (first | (with_reducible refine wpl_val rfl _ (exec_cutB _ _ _ rfl ad M c q (sz k) _ rfl rfl rfl (by omega) hs1 (by omega)) ?_) | (with_reducible refine wpl_val rfl _ (exec_loadSt 37 _ rfl ⟨w.heap.size, 0, none⟩ rfl 2 _ (cells2 H8x.out) _ Tryz.underlying37 iRB) ?_))
   refine (hDo st.d st.R Ar1 cr1 At1 ct1 (some (ad.add q)) (c - q) (ask6 k false false x j st) _ (offV w.heap.size wx (.slice Ao q co)) (fun _ hg => hg.1) HRx.out HTx.out hct (by omega) HI.out.hd (by omega) HKx.out hain.out hainb.out HAr.out _ _ _ HTu.out).mono ?_
   rintro e w3 ⟨hB3, Ar2, cr2, At2, ct2, v2, ok2, rfl, hr3, ht3, hct2, hAr2, hres⟩
   have hbz : #[Value.slice Ar2 R2.length cr2, .slice At2 (p.n - d2) ct2] = row 2 (bookC (.slice Ar2 R2.length cr2) (.slice At2 (p.n - d2) ct2)) := (row2 _ _).symm
   have hB34 : Below w3.heap.size w3 (w3.alloc (.cells (row 2 (bookC (.slice Ar2 R2.length cr2) (.slice At2 (p.n - d2) ct2))) 37)) := (Below.refl _ _).alloc (Nat.le_refl _) _
   have hB4 : Below wx.heap.size wx (w3.alloc (.cells (row 2 (bookC (.slice Ar2 R2.length cr2) (.slice At2 (p.n - d2) ct2))) 37)) := hB3.trans (hB34.mono hB3.size)
   have hN4 : Blk (w3.alloc (.cells (row 2 (bookC (.slice Ar2 R2.length cr2) (.slice At2 (p.n - d2) ct2))) 37)) w3.heap.size 37 (row 2 (bookC (.slice Ar2 R2.length cr2) (.slice At2 (p.n - d2) ct2))) := Blk.fresh _ _ _
   have H84 := hid (H8x.out.below hB4 H8x.out.lt)
   obtain ⟨w5, hw5⟩ : ∃ W, W = (w3.alloc (.cells (row 2 (bookC (.slice Ar2 R2.length cr2) (.slice At2 (p.n - d2) ct2))) 37)).setRow w.heap.size (row 2 (bookC (.slice Ar2 R2.length cr2) (.slice At2 (p.n - d2) ct2))) := ⟨_, rfl⟩
   have HN4 := hid hN4
   have H85 := hid (show Blk w5 w.heap.size 37 (row 2 (bookC (.slice Ar2 R2.length cr2) (.slice At2 (p.n - d2) ct2))) from by rw [hw5]; exact H84.out.setRow _)
   have H125 := hid (show Blk w5 (w.heap.size + 1) 37 _ from by rw [hw5]; exact (H12x.out.below hB4 H12x.out.lt).otherRow w.heap.size _ (by omega))
   have hvl : ∀ g, (Value.slice Ao q co).ownBlock = some g → g < wx.heap.size := fun g hg => (hvx.out g hg).2
   have HR5 := hid (show RowsAtP w5 (offV w.heap.size w5 (.slice Ao q co)) Ar2 Lk R2 from by rw [hw5]; exact rows_offL hr3 hbx hvl _ _)
   have HT5 := hid (show ReadsP w5 (offV w.heap.size w5 (.slice Ao q co)) At2 (p.n - d2) (fun i => p.F (d2 + i)) from by rw [hw5]; exact reads_offL ht3 hbx hvl _ _)
   have HO5 := hid (show Mem.Own w5 (w.heap.size + 2) 5 1 (.slice Ao q co) q st.out from by rw [hw5]; exact own_row (HOx.out.below hB4 (Nat.le_refl _)) H84.out _)
   have hs45 : (w3.alloc (.cells (row 2 (bookC (.slice Ar2 R2.length cr2) (.slice At2 (p.n - d2) ct2))) 37)).heap.size = w5.heap.size := by rw [hw5]; simp
   have hsz5 : w.heap.size + 2 ≤ w5.heap.size := by have := hB4.size; omega
   have HB5 := hid (show Below w.heap.size w w5 from by rw [hw5]; exact below_setRow' (HBx.out.trans (hB4.mono HBx.out.size)) (Nat.le_refl _) _)
   have hres5 : (∃ y Av cv, o = some y ∧ ok2 = true ∧ v2 = .slice Av (sz k) cv ∧ ReadsP w5 (offV w.heap.size w5 (.slice Ao q co)) Av (sz k) y) ∨ (o = none ∧ ok2 = false) := by
    rcases hres with ⟨y, Av, cv, e1, e2, e3, e4⟩ | h
    ·refine .inl ⟨y, Av, cv, e1, e2, e3, ?_⟩
     rw [hw5]
     exact reads_offL e4 hbx hvl _ _
    exact .inr h
   clear hres hr3 ht3 hN4 hB34 hB3 hB4 H8x H12x HRx HTx HKx HOx HBx hain hs45 hszx hvl hbx HXb
   rcases hres5 with ⟨y, Av, cv, rfl, rfl, rfl, hv5⟩ | ⟨rfl, rfl⟩
   ·have Hv5 := hid hv5
    have Hnx : Hid (mNext p k Lk key false false x j st = some ⟨R2, d2, y, cat (j * sz k) st.out y⟩) := hid (by rw [mNext_some HTu.out]; simp)
    obtain ⟨adv, rfl, hbv, hcv⟩ := hv5 hs1
    clear hv5 HTu
    go_wp2_with (first | (with_reducible refine wpl_alloc rfl 37 rfl _ zRB2 ?_) | (with_reducible refine wpl_store_newS rfl 37 _ _ rfl w3 _ 2 _ (one2 _ _ _ _ _ _) rfl rfl 37 iRB (row_size _ _) ?_) | (with_reducible refine wpl_val rfl _ (exec_loadSt 37 _ rfl ⟨w3.heap.size, 0, none⟩ rfl 2 _ (cells2 HN4.out) _ Tryz.underlying37 iRB) ?_) | (with_reducible refine wpl_store_blk rfl 37 _ _ rfl w.heap.size (row 2 (bookC (.slice Ar2 R2.length cr2) (.slice At2 (p.n - d2) ct2))) rfl rfl 37 _ H84.out (iRB' _) (by simp [row_size]) (one2 _ _ _ _ _ _) ?_) | (at_builtin; refine wpl_app_at rfl _ _ 22 rfl (w.heap.size + 2) 5 Tryz.underlying22 info_u8 _ q _ rfl (by rw [← hw5]; exact HO5.out) adv (sz k) cv y (by rw [← hw5]; exact hcv) rfl (by omega) (by rw [← hw5]; exact hsz5) ?_))
    rw [← hw5]
    intro v7 w7 ho7 hB7 hgr hov0
    have hs5 : w5.heap.size = w3.heap.size + 1 := by rw [hw5]; simp
    have hov : v7.ownBlock = (Value.slice Ao q co).ownBlock ∨ v7.ownBlock = some w5.heap.size := by rw [hs5]; exact hov0
    clear hov0 hs5
    obtain ⟨A7, c7, rfl, hc7, -⟩ := ho7.slice'
    have hlo : some w.heap.size ≠ (Value.slice Ao q co).ownBlock := fun e => by have := (hvx.out _ e.symm).1; omega
    have hlo1 : some (w.heap.size + 1) ≠ (Value.slice Ao q co).ownBlock := fun e => by have := (hvx.out _ e.symm).1; omega
    have H87 := hid (H85.out.grown hgr hlo)
    have H127 := hid (H125.out.grown hgr hlo1)
    have HR7 := hid (rows_offG HR5.out hgr hov)
    have HT7 := hid (reads_offG HT5.out hgr hov)
    have HB7 := hid (HB5.out.trans (hB7.mono (show w.heap.size ≤ w.heap.size + 2 by omega)))
    have hsz7 : w.heap.size + 2 ≤ w7.heap.size := Nat.le_trans hsz5 hB7.size
    have HO7 : Hid (Mem.Own w7 (w.heap.size + 2) 5 1 (.slice A7 (q + sz k) c7) (q + sz k) (cat (j * sz k) st.out y)) := hid (by have e := hq.out; rw [← e]; exact ho7)
    have hq7 : Hid (q + sz k = (j + 1) * sz k) := hid (by rw [hq.out, Nat.succ_mul])
    have HAr2 := hid hAr2
    clear hlo hlo1 hgr hov ho7 hB7 hw5 hbz H85 H125 HR5 HT5 HO5 HB5 hsz5 HN4 H84 hvx Hv5 hbv hcv hAr2
    go_wp2_with fail
    go_round
    case rel => exact ⟨j + 1, q + sz k, ⟨R2, d2, y, cat (j * sz k) st.out y⟩, Ar2, cr2, At2, ct2, by omega, hq7, hqn, val_int (by omega), mAt_next Hst.out Hnx.out, by show R2.length ≤ _; omega, HI2, hct2, HR7, HT7, HAr2, H87, H127, HO7, HB7, hsz7⟩
    case measure => simp [intOf]; omega
   have Hnx := hid (mNext_none HTu.out)
   clear HTu
   have hjq : (0 : Int) ≤ (q : Int) ∧ (0 : Int) < (sz k : Int) ∧ (q : Int) / (sz k : Int) = (j : Int) ∧ (0 : Int) ≤ (j : Int) ∧ (j : Int) ≤ 100000 := by
    have hjM : j ≤ 1000 := Nat.le_trans (Nat.le_trans (Nat.le_mul_of_pos_right j hs1) (Nat.le_of_eq hq.out.symm)) (by omega)
    refine ⟨by omega, by omega, ?_, by omega, by omega⟩
    rw [hq.out, ← Int.natCast_ediv, Nat.mul_div_cancel _ hs1]
   have Hjq := hid hjq
   clear hjq
   go_wp2_with (first | (with_reducible refine wpl_alloc rfl 37 rfl _ zRB2 ?_) | (with_reducible refine wpl_store_newS rfl 37 _ _ rfl w3 _ 2 _ (one2 _ _ _ _ _ _) rfl rfl 37 iRB (row_size _ _) ?_) | (with_reducible refine wpl_val rfl _ (exec_loadSt 37 _ rfl ⟨w3.heap.size, 0, none⟩ rfl 2 _ (cells2 HN4.out) _ Tryz.underlying37 iRB) ?_) | (with_reducible refine wpl_store_blk rfl 37 _ _ rfl w.heap.size (row 2 (bookC (.slice Ar2 R2.length cr2) (.slice At2 (p.n - d2) ct2))) rfl rfl 37 _ H84.out (iRB' _) (by simp [row_size]) (one2 _ _ _ _ _ _) ?_))
   rw [← hw5]
   clear hw5 hbz HN4 H84 HR5 HT5 HO5 hvx Hyb HI2 hAr2
   have d8 : ∀ W, KeptS [w.heap.size + 1] w5 W → ∀ i, i < 2 → W.cell? ((⟨w.heap.size, 0, none⟩ : Addr).add i) = some (bookC (.slice Ar2 R2.length cr2) (.slice At2 (p.n - d2) ct2) i) := fun W hW => cells2 (hW.blk H85.out (by simp))
   refine wp_region_held_drew (S := fun W => KeptS [w.heap.size + 1] w5 W) (by kernel_rfl) (KeptS.of _ (Below.refl _ _).drew) (fun hS0 => ?_)
   have h12b : Blk w5.drew (w.heap.size + 1) 37 (row 2 (bookC (.slice none 0 0) (.slice none 0 0))) := H125.out
   refine ztk (i := 0) (v := .agg (row 2 (bookC (.slice Ar2 R2.length cr2) (.slice At2 (p.n - d2) ct2)))) rfl (fun W hW => exec_loadSt 37 _ rfl ⟨w.heap.size, 0, none⟩ rfl 2 _ (d8 W hW) _ Tryz.underlying37 iRB) hS0 ?_
   (try simp only [Act.put,zza,zzb,zzc,zzd,zze,zzf])
   refine ztk (i := 1) (v := .int .i64 (q : Int)) rfl (fun _ _ => exec_move _ rfl _ rfl) hS0 ?_
   (try simp only [Act.put,zza,zzb,zzc,zzd,zze,zzf])
   refine ztk (i := 2) (v := .int .i64 (sz k : Int)) rfl (fun _ _ => exec_move _ rfl _ rfl) hS0 ?_
   (try simp only [Act.put,zza,zzb,zzc,zzd,zze,zzf])
   refine ztk (i := 3) (v := .int .i64 (j : Int)) rfl (fun _ _ => exec_quo6 _ _ _ _ rfl _ _ _ rfl rfl Hjq.out) hS0 ?_
   (try simp only [Act.put,zza,zzb,zzc,zzd,zze,zzf])
   refine wpAnyH_ready (rs := [4]) (by kernel_rfl) (by simp) (ready_one rfl rfl (fun K hK => ?_))
   (try simp only [Act.put,zza,zzb,zzc,zzd,zze,zzf])
   with_reducible refine wp_store_blk 37 _ _ rfl (w.heap.size + 1) (row 2 (bookC (.slice Ar2 R2.length cr2) (.slice At2 (p.n - d2) ct2))) rfl rfl 37 _ h12b (iRB' _) (by simp [row_size]) (one2 _ _ _ _ _ _) ?_
   (try simp only [Act.put,zza,zzb,zzc,zzd,zze,zzf])
   refine hK.out _ _ (keptS_row hS0 (by simp) _) (fun hSz => ?_)
   (try simp only [Act.put,zza,zzb,zzc,zzd,zze,zzf])
   refine ztk (i := 5) (v := .slice none 0 0) rfl (fun _ _ => exec_assign _ rfl _ rfl) hSz ?_
   (try simp only [Act.put,zza,zzb,zzc,zzd,zze,zzf])
   refine ztk (i := 6) (v := .int .i64 (j : Int)) rfl (fun _ _ => exec_assign _ rfl _ rfl) hSz ?_
   (try simp only [Act.put,zza,zzb,zzc,zzd,zze,zzf])
   refine wpAnyH_done (by kernel_rfl) ?_ _
   clear hK
   have hBf : Below w.heap.size w _ := HB5.out.trans (hSz.below (B := w.heap.size) (by simp) (by omega))
   go_wp2_with fail
   refine ret_row3 Tryz.results12 rfl (w.heap.size + 1) rfl _ rfl _ rfl 37 2 _ (h12b.setRow _) _ Tryz.underlying37 iRB ⟨hBf, .inr ⟨j, st, _, hlt, Hst.out, Hnx.out, rfl, bkv _ _ _ _ _ _⟩⟩
  have hjN : j = N := by omega
  have hqI : ¬ (q : Int) + (sz k : Int) ≤ (M : Int) := by have := hq.out; have := HM.out; rw [← hjN, ← hq.out] at this; omega
  have hc8 := cells2 H8.out
  go_wp2_with (first
   | (with_reducible refine wpl_val rfl _ (exec_loadSt 37 _ rfl ⟨w.heap.size, 0, none⟩ rfl 2 _ hc8 _ Tryz.underlying37 iRB) ?_)
   | (with_reducible refine wpl_store_blk rfl 37 _ _ rfl (w.heap.size + 1) (row 2 (bookC (.slice Ar1 st.R.length cr1) (.slice At1 (p.n - st.d) ct1))) rfl rfl 37 _ H12.out (iRB' _) (by simp [row_size]) (one2 _ _ _ _ _ _) ?_))
  have hBf := below_setRow' HB.out (Nat.le_succ w.heap.size) (row 2 (bookC (.slice Ar1 st.R.length cr1) (.slice At1 (p.n - st.d) ct1)))
  have hof := own_row HO.out H12.out (row 2 (bookC (.slice Ar1 st.R.length cr1) (.slice At1 (p.n - st.d) ct1)))
  have hst2 := Hst.out
  rw [hjN] at hst2
  have hqN : q = N * sz k := by rw [hq.out, hjN]
  refine ret_row3 Tryz.results12 rfl (w.heap.size + 1) rfl _ rfl _ rfl 37 2 _ (H12.out.setRow _) _ Tryz.underlying37 iRB ⟨hBf, .inl ⟨st, .agg (row 2 (bookC (.slice Ar1 st.R.length cr1) (.slice At1 (p.n - st.d) ct1))), .slice Ao q co, hst2, rfl, ?_, bkv _ _ _ _ _ _⟩⟩
  rw [← hqN]
  exact own_base6 hof (by omega)
set_option maxRecDepth 100000 in
set_option maxHeartbeats 4000000 in
set_option linter.unusedSimpArgs false in
theorem rmode_aloneb (p : Pl) (k d Lk : Nat) (R : List Rw) (Ar : Option Addr) (cr : Nat) (At : Option Addr) (ct : Nat) (Ak : Option Addr) (ck : Nat) (key : Nat → Nat) (s : Nat → Nat) (A : Option Addr) (M c N : Nat) (x : Nat → Nat) (w : World)
  (hf : fits k Lk) (hDo : DoC p k Lk Ak ck key true) (hI : Inv p.F p.n R d) (hRr : RowsAt w w.heap.size Ar Lk R) (hT : Reads w w.heap.size At (p.n - d) (fun i => p.F (d + i))) (hct : p.n - d ≤ ct) (hlen : R.length + N ≤ 1000) (hkey : Reads w w.heap.size Ak Lk key) (hkb : ∀ i, i < Lk → key i < 256) (hAr : Ar = none → R.length = 0 ∧ cr = 0)
  (hM : M = N * sz k) (hM1 : M ≤ 1000) (hc : M ≤ c) (hx : ∀ i, i < M → x i < 256) (hR : Reads w w.heap.size A M x) :
  Calls Tryz.prog 12 #[.int .i64 (k : Int), .slice Ak Lk ck, .agg (row 2 (bookC (.slice Ar R.length cr) (.slice At (p.n - d) ct))), .slice none 0 0, .slice A M c, .bool true] w (RMode p k Lk key true false x N ⟨R, d, s, fun _ => 0⟩ w) := by
 have hkk := fits_kind hf
 obtain ⟨hs1, hs2⟩ := sz_pos k
 have hn65 := hI.hn
 have hB0 : Below w.heap.size w ((w.alloc (.cells (row 2 (bookC (.slice Ar R.length cr) (.slice At (p.n - d) ct))) 37)).alloc (.cells (row 2 (bookC (.slice none 0 0) (.slice none 0 0))) 37)) := ((Below.refl _ _).alloc (Nat.le_refl _) _).alloc (by simp) _
 have h8 : Blk ((w.alloc (.cells (row 2 (bookC (.slice Ar R.length cr) (.slice At (p.n - d) ct))) 37)).alloc (.cells (row 2 (bookC (.slice none 0 0) (.slice none 0 0))) 37)) w.heap.size 37 (row 2 (bookC (.slice Ar R.length cr) (.slice At (p.n - d) ct))) := (Blk.fresh _ _ _).alloc _
 have h12 : Blk ((w.alloc (.cells (row 2 (bookC (.slice Ar R.length cr) (.slice At (p.n - d) ct))) 37)).alloc (.cells (row 2 (bookC (.slice none 0 0) (.slice none 0 0))) 37)) (w.heap.size + 1) 37 (row 2 (bookC (.slice none 0 0) (.slice none 0 0))) := by
  have := Blk.fresh (w.alloc (.cells (row 2 (bookC (.slice Ar R.length cr) (.slice At (p.n - d) ct))) 37)) 37 (row 2 (bookC (.slice none 0 0) (.slice none 0 0)))
  simpa using this
 have hz : ((w.alloc (.cells (row 2 (bookC (.slice Ar R.length cr) (.slice At (p.n - d) ct))) 37)).alloc (.cells (row 2 (bookC (.slice none 0 0) (.slice none 0 0))) 37)).heap.size = w.heap.size + 2 := by simp
 have HR0 := hid (rows_off0 hRr hB0)
 have HT0 := hid (reads_off0 hT hB0)
 have HKw := hid hkey
 have HXw := hid hR
 have HM := hid hM
 have Hx := hid hx
 have Hkb := hid hkb
 have HAr := hid hAr
 have HI := hid hI
 have HB0 := hid hB0
 have H8 := hid h8
 have H12 := hid h12
 have HSZ := hid (rsize_any k hkk)
 clear hRr hT hkey hR hM hx hkb hAr hI hB0 h8 h12
 go_enter Tryz.func12, Tryz.ntmps12
 go_wp2_with (first
  | (with_reducible refine wpl_alloc rfl 37 rfl _ zRB2 ?_)
  | (go_at_call 10; refine (HSZ.out _).mono ?_; rintro e wa ⟨rfl, rfl⟩))
 generalize ((w.alloc (.cells (row 2 (bookC (.slice Ar R.length cr) (.slice At (p.n - d) ct))) 37)).alloc (.cells (row 2 (bookC (.slice none 0 0) (.slice none 0 0))) 37)) = w1 at *
 go_loopw [16, 17, 18, 19, 20, 21, 22] (fun _ ov iv _ _ _ _ wr => ∃ (j q : Nat) (st : MS) (Ar1 : Option Addr) (cr1 : Nat) (At1 : Option Addr) (ct1 : Nat), j ≤ N ∧ Hid (q = j * sz k) ∧ q ≤ M ∧ iv = .int .i64 (q : Int) ∧ mAt p k Lk key true false x ⟨R, d, s, fun _ => 0⟩ j = some st ∧ st.R.length ≤ R.length + j ∧ Hid (Inv p.F p.n st.R st.d) ∧ p.n - st.d ≤ ct1 ∧ Hid (RowsAtP wr (offV w.heap.size wr ov) Ar1 Lk st.R) ∧ Hid (ReadsP wr (offV w.heap.size wr ov) At1 (p.n - st.d) (fun i => p.F (st.d + i))) ∧ Hid (Ar1 = none → st.R.length = 0 ∧ cr1 = 0) ∧ Hid (Blk wr w.heap.size 37 (row 2 (bookC (.slice Ar1 st.R.length cr1) (.slice At1 (p.n - st.d) ct1)))) ∧ Hid (Blk wr (w.heap.size + 1) 37 (row 2 (bookC (.slice none 0 0) (.slice none 0 0)))) ∧ Hid (Mem.Own wr (w.heap.size + 2) 5 1 ov q st.out) ∧ Hid (Below w.heap.size w wr) ∧ w.heap.size + 2 ≤ wr.heap.size) (fun _ _ iv _ _ _ _ _ => M - (intOf iv).toNat)
 case atStart => exact ⟨0, 0, ⟨R, d, s, fun _ => 0⟩, Ar, cr, At, ct, by omega, hid (by simp), by omega, rfl, rfl, by simp, HI, hct, HR0, HT0, HAr, H8, H12, hid (Mem.Own.nil _ _ _ _ _), HB0, by omega⟩
 case round =>
  clear H8 H12 HR0 HT0 HB0 HI HAr hct hz
  obtain ⟨j, q, st, Ar1, cr1, At1, ct1, hj, hq, hqM, rfl, hst, hRl, HI, hct, HRw, HT, HAr, H8, H12, HO, HB, hsz⟩ := hrel
  obtain ⟨Ao, co, rfl, hco, -⟩ := HO.out.slice'
  have Hst := hid hst
  clear hst
  by_cases hlt : j < N
  ·have hqn : q + sz k ≤ M := by
    have := Nat.mul_le_mul_right (sz k) (show j + 1 ≤ N from hlt)
    rw [Nat.succ_mul, ← hq.out, ← HM.out] at this
    exact this
   have hqI : (q : Int) + (sz k : Int) ≤ (M : Int) := by omega
   obtain ⟨ad, rfl, had, hcs⟩ := HXw.out (by omega)
   have hxb : Hid (∀ i, i < sz k → tb k x j i < 256) := hid (fun i hi => by unfold tb; rw [← hq.out]; exact Hx.out _ (by omega))
   have HXb : Hid (∀ W, Below w.heap.size w W → Reads W W.heap.size (some (ad.add q)) (sz k) (tb k x j)) := hid (fun W hW _ => ⟨_, rfl, by rw [add_block]; exact Nat.lt_of_lt_of_le had hW.size, fun i hi => by
    rw [add_add]
    unfold tb
    rw [← hq.out]
    exact (hW.cell (p := ad.add (q + i)) (by rw [add_block]; exact had)).trans (hcs _ (by omega))⟩)
   clear hcs
   have hao : ask6 k true false x j st = tb k x j := by unfold ask6; rw [if_neg (by simp)]
   obtain ⟨wx, hwx⟩ : ∃ W, W = wr := ⟨_, rfl⟩
   subst hwx
   have hBx : Below wx.heap.size wx wx := Below.refl _ _
   have hain : Hid (Reads wx wx.heap.size (some (ad.add q)) (sz k) (ask6 k true false x j st)) := hid (by rw [hao]; exact HXb.out _ HB.out)
   have hainb : Hid (∀ i, i < sz k → ask6 k true false x j st i < 256) := hid (fun i hi => by rw [hao]; exact hxb.out i hi)
   clear hao
   have H8x := hid (H8.out.below hBx H8.out.lt)
   have H12x := hid (H12.out.below hBx H12.out.lt)
   have HRx := hid (rows_offB HRw.out hBx)
   have HTx := hid (reads_offB HT.out hBx)
   have HOx := hid (HO.out.below hBx (Nat.le_refl _))
   have HBx := hid (HB.out.trans (hBx.mono HB.out.size))
   have hszx := hBx.size
   have hbx : w.heap.size < wx.heap.size := by omega
   have hvx : Hid (∀ g, (Value.slice Ao q co).ownBlock = some g → w.heap.size + 2 ≤ g ∧ g < wx.heap.size) := hid (fun g hg => World.ownsRow.lt HOx.out g hg)
   have HKx := hid ((HKw.out.below HBx.out).more HBx.out.size)
   rcases ht : turnC k Lk key p st.R st.d true (ask6 k true false x j st) with ⟨o, R2, d2⟩
   obtain ⟨hI2, hyb, -, hl2⟩ := turn_inv hf Hkb.out HI.out hainb.out ht
   have HTu := hid ht
   have HI2 := hid hI2
   have hd2 := hI2.hd
   have hl2 := len_le hl2
   have Hyb := hid hyb
   clear ht hI2 hyb hBx H8 H12 HRw HT HO HB
   go_wp2_with (first | (with_reducible refine wpl_val rfl _ (exec_cutB _ _ _ rfl ad M c q (sz k) _ rfl rfl rfl (by omega) hs1 (by omega)) ?_) | (with_reducible refine wpl_val rfl _ (exec_loadSt 37 _ rfl ⟨w.heap.size, 0, none⟩ rfl 2 _ (cells2 H8x.out) _ Tryz.underlying37 iRB) ?_))
   refine (hDo st.d st.R Ar1 cr1 At1 ct1 (some (ad.add q)) (c - q) (ask6 k true false x j st) _ (offV w.heap.size wx (.slice Ao q co)) (fun _ hg => hg.1) HRx.out HTx.out hct (by omega) HI.out.hd (by omega) HKx.out hain.out hainb.out HAr.out _ _ _ HTu.out).mono ?_
   rintro e w3 ⟨hB3, Ar2, cr2, At2, ct2, v2, ok2, rfl, hr3, ht3, hct2, hAr2, hres⟩
   have hbz : #[Value.slice Ar2 R2.length cr2, .slice At2 (p.n - d2) ct2] = row 2 (bookC (.slice Ar2 R2.length cr2) (.slice At2 (p.n - d2) ct2)) := (row2 _ _).symm
   have hB34 : Below w3.heap.size w3 (w3.alloc (.cells (row 2 (bookC (.slice Ar2 R2.length cr2) (.slice At2 (p.n - d2) ct2))) 37)) := (Below.refl _ _).alloc (Nat.le_refl _) _
   have hB4 : Below wx.heap.size wx (w3.alloc (.cells (row 2 (bookC (.slice Ar2 R2.length cr2) (.slice At2 (p.n - d2) ct2))) 37)) := hB3.trans (hB34.mono hB3.size)
   have hN4 : Blk (w3.alloc (.cells (row 2 (bookC (.slice Ar2 R2.length cr2) (.slice At2 (p.n - d2) ct2))) 37)) w3.heap.size 37 (row 2 (bookC (.slice Ar2 R2.length cr2) (.slice At2 (p.n - d2) ct2))) := Blk.fresh _ _ _
   have H84 := hid (H8x.out.below hB4 H8x.out.lt)
   obtain ⟨w5, hw5⟩ : ∃ W, W = (w3.alloc (.cells (row 2 (bookC (.slice Ar2 R2.length cr2) (.slice At2 (p.n - d2) ct2))) 37)).setRow w.heap.size (row 2 (bookC (.slice Ar2 R2.length cr2) (.slice At2 (p.n - d2) ct2))) := ⟨_, rfl⟩
   have HN4 := hid hN4
   have H85 := hid (show Blk w5 w.heap.size 37 (row 2 (bookC (.slice Ar2 R2.length cr2) (.slice At2 (p.n - d2) ct2))) from by rw [hw5]; exact H84.out.setRow _)
   have H125 := hid (show Blk w5 (w.heap.size + 1) 37 _ from by rw [hw5]; exact (H12x.out.below hB4 H12x.out.lt).otherRow w.heap.size _ (by omega))
   have hvl : ∀ g, (Value.slice Ao q co).ownBlock = some g → g < wx.heap.size := fun g hg => (hvx.out g hg).2
   have HR5 := hid (show RowsAtP w5 (offV w.heap.size w5 (.slice Ao q co)) Ar2 Lk R2 from by rw [hw5]; exact rows_offL hr3 hbx hvl _ _)
   have HT5 := hid (show ReadsP w5 (offV w.heap.size w5 (.slice Ao q co)) At2 (p.n - d2) (fun i => p.F (d2 + i)) from by rw [hw5]; exact reads_offL ht3 hbx hvl _ _)
   have HO5 := hid (show Mem.Own w5 (w.heap.size + 2) 5 1 (.slice Ao q co) q st.out from by rw [hw5]; exact own_row (HOx.out.below hB4 (Nat.le_refl _)) H84.out _)
   have hs45 : (w3.alloc (.cells (row 2 (bookC (.slice Ar2 R2.length cr2) (.slice At2 (p.n - d2) ct2))) 37)).heap.size = w5.heap.size := by rw [hw5]; simp
   have hsz5 : w.heap.size + 2 ≤ w5.heap.size := by have := hB4.size; omega
   have HB5 := hid (show Below w.heap.size w w5 from by rw [hw5]; exact below_setRow' (HBx.out.trans (hB4.mono HBx.out.size)) (Nat.le_refl _) _)
   have hres5 : (∃ y Av cv, o = some y ∧ ok2 = true ∧ v2 = .slice Av (sz k) cv ∧ ReadsP w5 (offV w.heap.size w5 (.slice Ao q co)) Av (sz k) y) ∨ (o = none ∧ ok2 = false) := by
    rcases hres with ⟨y, Av, cv, e1, e2, e3, e4⟩ | h
    ·refine .inl ⟨y, Av, cv, e1, e2, e3, ?_⟩
     rw [hw5]
     exact reads_offL e4 hbx hvl _ _
    exact .inr h
   clear hres hr3 ht3 hN4 hB34 hB3 hB4 H8x H12x HRx HTx HKx HOx HBx hain hs45 hszx hvl hbx HXb
   rcases hres5 with ⟨y, Av, cv, rfl, rfl, rfl, hv5⟩ | ⟨rfl, rfl⟩
   ·have Hv5 := hid hv5
    have Hnx : Hid (mNext p k Lk key true false x j st = some ⟨R2, d2, y, cat (j * sz k) st.out y⟩) := hid (by rw [mNext_some HTu.out]; simp)
    obtain ⟨adv, rfl, hbv, hcv⟩ := hv5 hs1
    clear hv5 HTu
    go_wp2_with (first | (with_reducible refine wpl_alloc rfl 37 rfl _ zRB2 ?_) | (with_reducible refine wpl_store_newS rfl 37 _ _ rfl w3 _ 2 _ (one2 _ _ _ _ _ _) rfl rfl 37 iRB (row_size _ _) ?_) | (with_reducible refine wpl_val rfl _ (exec_loadSt 37 _ rfl ⟨w3.heap.size, 0, none⟩ rfl 2 _ (cells2 HN4.out) _ Tryz.underlying37 iRB) ?_) | (with_reducible refine wpl_store_blk rfl 37 _ _ rfl w.heap.size (row 2 (bookC (.slice Ar2 R2.length cr2) (.slice At2 (p.n - d2) ct2))) rfl rfl 37 _ H84.out (iRB' _) (by simp [row_size]) (one2 _ _ _ _ _ _) ?_) | (at_builtin; refine wpl_app_at rfl _ _ 22 rfl (w.heap.size + 2) 5 Tryz.underlying22 info_u8 _ q _ rfl (by rw [← hw5]; exact HO5.out) adv (sz k) cv y (by rw [← hw5]; exact hcv) rfl (by omega) (by rw [← hw5]; exact hsz5) ?_))
    rw [← hw5]
    intro v7 w7 ho7 hB7 hgr hov0
    have hs5 : w5.heap.size = w3.heap.size + 1 := by rw [hw5]; simp
    have hov : v7.ownBlock = (Value.slice Ao q co).ownBlock ∨ v7.ownBlock = some w5.heap.size := by rw [hs5]; exact hov0
    clear hov0 hs5
    obtain ⟨A7, c7, rfl, hc7, -⟩ := ho7.slice'
    have hlo : some w.heap.size ≠ (Value.slice Ao q co).ownBlock := fun e => by have := (hvx.out _ e.symm).1; omega
    have hlo1 : some (w.heap.size + 1) ≠ (Value.slice Ao q co).ownBlock := fun e => by have := (hvx.out _ e.symm).1; omega
    have H87 := hid (H85.out.grown hgr hlo)
    have H127 := hid (H125.out.grown hgr hlo1)
    have HR7 := hid (rows_offG HR5.out hgr hov)
    have HT7 := hid (reads_offG HT5.out hgr hov)
    have HB7 := hid (HB5.out.trans (hB7.mono (show w.heap.size ≤ w.heap.size + 2 by omega)))
    have hsz7 : w.heap.size + 2 ≤ w7.heap.size := Nat.le_trans hsz5 hB7.size
    have HO7 : Hid (Mem.Own w7 (w.heap.size + 2) 5 1 (.slice A7 (q + sz k) c7) (q + sz k) (cat (j * sz k) st.out y)) := hid (by have e := hq.out; rw [← e]; exact ho7)
    have hq7 : Hid (q + sz k = (j + 1) * sz k) := hid (by rw [hq.out, Nat.succ_mul])
    have HAr2 := hid hAr2
    clear hlo hlo1 hgr hov ho7 hB7 hw5 hbz H85 H125 HR5 HT5 HO5 HB5 hsz5 HN4 H84 hvx Hv5 hbv hcv hAr2
    go_wp2_with fail
    go_round
    case rel => exact ⟨j + 1, q + sz k, ⟨R2, d2, y, cat (j * sz k) st.out y⟩, Ar2, cr2, At2, ct2, by omega, hq7, hqn, val_int (by omega), mAt_next Hst.out Hnx.out, by show R2.length ≤ _; omega, HI2, hct2, HR7, HT7, HAr2, H87, H127, HO7, HB7, hsz7⟩
    case measure => simp [intOf]; omega
   have Hnx := hid (mNext_none HTu.out)
   clear HTu
   have hjq : (0 : Int) ≤ (q : Int) ∧ (0 : Int) < (sz k : Int) ∧ (q : Int) / (sz k : Int) = (j : Int) ∧ (0 : Int) ≤ (j : Int) ∧ (j : Int) ≤ 100000 := by
    have hjM : j ≤ 1000 := Nat.le_trans (Nat.le_trans (Nat.le_mul_of_pos_right j hs1) (Nat.le_of_eq hq.out.symm)) (by omega)
    refine ⟨by omega, by omega, ?_, by omega, by omega⟩
    rw [hq.out, ← Int.natCast_ediv, Nat.mul_div_cancel _ hs1]
   have Hjq := hid hjq
   clear hjq
   go_wp2_with (first | (with_reducible refine wpl_alloc rfl 37 rfl _ zRB2 ?_) | (with_reducible refine wpl_store_newS rfl 37 _ _ rfl w3 _ 2 _ (one2 _ _ _ _ _ _) rfl rfl 37 iRB (row_size _ _) ?_) | (with_reducible refine wpl_val rfl _ (exec_loadSt 37 _ rfl ⟨w3.heap.size, 0, none⟩ rfl 2 _ (cells2 HN4.out) _ Tryz.underlying37 iRB) ?_) | (with_reducible refine wpl_store_blk rfl 37 _ _ rfl w.heap.size (row 2 (bookC (.slice Ar2 R2.length cr2) (.slice At2 (p.n - d2) ct2))) rfl rfl 37 _ H84.out (iRB' _) (by simp [row_size]) (one2 _ _ _ _ _ _) ?_))
   rw [← hw5]
   clear hw5 hbz HN4 H84 HR5 HT5 HO5 hvx Hyb HI2 hAr2
   have d8 : ∀ W, KeptS [w.heap.size + 1] w5 W → ∀ i, i < 2 → W.cell? ((⟨w.heap.size, 0, none⟩ : Addr).add i) = some (bookC (.slice Ar2 R2.length cr2) (.slice At2 (p.n - d2) ct2) i) := fun W hW => cells2 (hW.blk H85.out (by simp))
   refine wp_region_held_drew (S := fun W => KeptS [w.heap.size + 1] w5 W) (by kernel_rfl) (KeptS.of _ (Below.refl _ _).drew) (fun hS0 => ?_)
   have h12b : Blk w5.drew (w.heap.size + 1) 37 (row 2 (bookC (.slice none 0 0) (.slice none 0 0))) := H125.out
   refine ztk (i := 0) (v := .agg (row 2 (bookC (.slice Ar2 R2.length cr2) (.slice At2 (p.n - d2) ct2)))) rfl (fun W hW => exec_loadSt 37 _ rfl ⟨w.heap.size, 0, none⟩ rfl 2 _ (d8 W hW) _ Tryz.underlying37 iRB) hS0 ?_
   (try simp only [Act.put,zza,zzb,zzc,zzd,zze,zzf])
   refine ztk (i := 1) (v := .int .i64 (q : Int)) rfl (fun _ _ => exec_move _ rfl _ rfl) hS0 ?_
   (try simp only [Act.put,zza,zzb,zzc,zzd,zze,zzf])
   refine ztk (i := 2) (v := .int .i64 (sz k : Int)) rfl (fun _ _ => exec_move _ rfl _ rfl) hS0 ?_
   (try simp only [Act.put,zza,zzb,zzc,zzd,zze,zzf])
   refine ztk (i := 3) (v := .int .i64 (j : Int)) rfl (fun _ _ => exec_quo6 _ _ _ _ rfl _ _ _ rfl rfl Hjq.out) hS0 ?_
   (try simp only [Act.put,zza,zzb,zzc,zzd,zze,zzf])
   refine wpAnyH_ready (rs := [4]) (by kernel_rfl) (by simp) (ready_one rfl rfl (fun K hK => ?_))
   (try simp only [Act.put,zza,zzb,zzc,zzd,zze,zzf])
   with_reducible refine wp_store_blk 37 _ _ rfl (w.heap.size + 1) (row 2 (bookC (.slice Ar2 R2.length cr2) (.slice At2 (p.n - d2) ct2))) rfl rfl 37 _ h12b (iRB' _) (by simp [row_size]) (one2 _ _ _ _ _ _) ?_
   (try simp only [Act.put,zza,zzb,zzc,zzd,zze,zzf])
   refine hK.out _ _ (keptS_row hS0 (by simp) _) (fun hSz => ?_)
   (try simp only [Act.put,zza,zzb,zzc,zzd,zze,zzf])
   refine ztk (i := 5) (v := .slice none 0 0) rfl (fun _ _ => exec_assign _ rfl _ rfl) hSz ?_
   (try simp only [Act.put,zza,zzb,zzc,zzd,zze,zzf])
   refine ztk (i := 6) (v := .int .i64 (j : Int)) rfl (fun _ _ => exec_assign _ rfl _ rfl) hSz ?_
   (try simp only [Act.put,zza,zzb,zzc,zzd,zze,zzf])
   refine wpAnyH_done (by kernel_rfl) ?_ _
   clear hK
   have hBf : Below w.heap.size w _ := HB5.out.trans (hSz.below (B := w.heap.size) (by simp) (by omega))
   go_wp2_with fail
   refine ret_row3 Tryz.results12 rfl (w.heap.size + 1) rfl _ rfl _ rfl 37 2 _ (h12b.setRow _) _ Tryz.underlying37 iRB ⟨hBf, .inr ⟨j, st, _, hlt, Hst.out, Hnx.out, rfl, bkv _ _ _ _ _ _⟩⟩
  have hjN : j = N := by omega
  have hqI : ¬ (q : Int) + (sz k : Int) ≤ (M : Int) := by have := hq.out; have := HM.out; rw [← hjN, ← hq.out] at this; omega
  have hc8 := cells2 H8.out
  go_wp2_with (first
   | (with_reducible refine wpl_val rfl _ (exec_loadSt 37 _ rfl ⟨w.heap.size, 0, none⟩ rfl 2 _ hc8 _ Tryz.underlying37 iRB) ?_)
   | (with_reducible refine wpl_store_blk rfl 37 _ _ rfl (w.heap.size + 1) (row 2 (bookC (.slice Ar1 st.R.length cr1) (.slice At1 (p.n - st.d) ct1))) rfl rfl 37 _ H12.out (iRB' _) (by simp [row_size]) (one2 _ _ _ _ _ _) ?_))
  have hBf := below_setRow' HB.out (Nat.le_succ w.heap.size) (row 2 (bookC (.slice Ar1 st.R.length cr1) (.slice At1 (p.n - st.d) ct1)))
  have hof := own_row HO.out H12.out (row 2 (bookC (.slice Ar1 st.R.length cr1) (.slice At1 (p.n - st.d) ct1)))
  have hst2 := Hst.out
  rw [hjN] at hst2
  have hqN : q = N * sz k := by rw [hq.out, hjN]
  refine ret_row3 Tryz.results12 rfl (w.heap.size + 1) rfl _ rfl _ rfl 37 2 _ (H12.out.setRow _) _ Tryz.underlying37 iRB ⟨hBf, .inl ⟨st, .agg (row 2 (bookC (.slice Ar1 st.R.length cr1) (.slice At1 (p.n - st.d) ct1))), .slice Ao q co, hst2, rfl, ?_, bkv _ _ _ _ _ _⟩⟩
  rw [← hqN]
  exact own_base6 hof (by omega)
set_option maxRecDepth 100000 in
set_option maxHeartbeats 4000000 in
set_option linter.unusedSimpArgs false in
theorem rmode_back (p : Pl) (k d Lk : Nat) (R : List Rw) (Ar : Option Addr) (cr : Nat) (At : Option Addr) (ct : Nat) (Ak : Option Addr) (ck : Nat) (key : Nat → Nat) (As : Option Addr) (cs : Nat) (s : Nat → Nat) (A : Option Addr) (M c N : Nat) (x : Nat → Nat) (w : World)
  (hf : fits k Lk) (hDo : DoC p k Lk Ak ck key true) (hI : Inv p.F p.n R d) (hRr : RowsAt w w.heap.size Ar Lk R) (hT : Reads w w.heap.size At (p.n - d) (fun i => p.F (d + i))) (hct : p.n - d ≤ ct) (hlen : R.length + N ≤ 1000) (hkey : Reads w w.heap.size Ak Lk key) (hkb : ∀ i, i < Lk → key i < 256) (hAr : Ar = none → R.length = 0 ∧ cr = 0)
  (hM : M = N * sz k) (hM1 : M ≤ 1000) (hc : M ≤ c) (hx : ∀ i, i < M → x i < 256) (hR : Reads w w.heap.size A M x) (hs : ∀ i, i < sz k → s i < 256) (hRs : Reads w w.heap.size As (sz k) s) :
  Calls Tryz.prog 12 #[.int .i64 (k : Int), .slice Ak Lk ck, .agg (row 2 (bookC (.slice Ar R.length cr) (.slice At (p.n - d) ct))), .slice As (sz k) cs, .slice A M c, .bool true] w (RMode p k Lk key true true x N ⟨R, d, s, fun _ => 0⟩ w) := by
 have hkk := fits_kind hf
 obtain ⟨hs1, hs2⟩ := sz_pos k
 have hn65 := hI.hn
 have hB0 : Below w.heap.size w ((w.alloc (.cells (row 2 (bookC (.slice Ar R.length cr) (.slice At (p.n - d) ct))) 37)).alloc (.cells (row 2 (bookC (.slice none 0 0) (.slice none 0 0))) 37)) := ((Below.refl _ _).alloc (Nat.le_refl _) _).alloc (by simp) _
 have h8 : Blk ((w.alloc (.cells (row 2 (bookC (.slice Ar R.length cr) (.slice At (p.n - d) ct))) 37)).alloc (.cells (row 2 (bookC (.slice none 0 0) (.slice none 0 0))) 37)) w.heap.size 37 (row 2 (bookC (.slice Ar R.length cr) (.slice At (p.n - d) ct))) := (Blk.fresh _ _ _).alloc _
 have h12 : Blk ((w.alloc (.cells (row 2 (bookC (.slice Ar R.length cr) (.slice At (p.n - d) ct))) 37)).alloc (.cells (row 2 (bookC (.slice none 0 0) (.slice none 0 0))) 37)) (w.heap.size + 1) 37 (row 2 (bookC (.slice none 0 0) (.slice none 0 0))) := by
  have := Blk.fresh (w.alloc (.cells (row 2 (bookC (.slice Ar R.length cr) (.slice At (p.n - d) ct))) 37)) 37 (row 2 (bookC (.slice none 0 0) (.slice none 0 0)))
  simpa using this
 have hz : ((w.alloc (.cells (row 2 (bookC (.slice Ar R.length cr) (.slice At (p.n - d) ct))) 37)).alloc (.cells (row 2 (bookC (.slice none 0 0) (.slice none 0 0))) 37)).heap.size = w.heap.size + 2 := by simp
 have HR0 := hid (rows_off0 hRr hB0)
 have HT0 := hid (reads_off0 hT hB0)
 have HS0 : Hid (∀ W, Below w.heap.size w W → Reads W W.heap.size As (sz k) s) := hid (fun W hW => (hRs.below hW).more hW.size)
 have HKw := hid hkey
 have HXw := hid hR
 have Hsb := hid hs
 have HM := hid hM
 have Hx := hid hx
 have Hkb := hid hkb
 have HAr := hid hAr
 have HI := hid hI
 have HB0 := hid hB0
 have H8 := hid h8
 have H12 := hid h12
 have HSZ := hid (rsize_any k hkk)
 clear hRr hT hkey hR hM hx hkb hAr hI hB0 hs hRs h8 h12
 go_enter Tryz.func12, Tryz.ntmps12
 go_wp2_with (first
  | (with_reducible refine wpl_alloc rfl 37 rfl _ zRB2 ?_)
  | (go_at_call 10; refine (HSZ.out _).mono ?_; rintro e wa ⟨rfl, rfl⟩))
 generalize ((w.alloc (.cells (row 2 (bookC (.slice Ar R.length cr) (.slice At (p.n - d) ct))) 37)).alloc (.cells (row 2 (bookC (.slice none 0 0) (.slice none 0 0))) 37)) = w1 at *
 go_loopw [16, 17, 18, 19, 20, 21, 22] (fun lv ov iv _ _ _ _ wr => ∃ (j q : Nat) (st : MS) (Ar1 : Option Addr) (cr1 : Nat) (At1 : Option Addr) (ct1 : Nat) (Al : Option Addr) (cl : Nat), j ≤ N ∧ Hid (q = j * sz k) ∧ q ≤ M ∧ iv = .int .i64 (q : Int) ∧ lv = .slice Al (sz k) cl ∧ mAt p k Lk key true true x ⟨R, d, s, fun _ => 0⟩ j = some st ∧ st.R.length ≤ R.length + j ∧ Hid (Inv p.F p.n st.R st.d) ∧ p.n - st.d ≤ ct1 ∧ Hid (RowsAtP wr (offV w.heap.size wr ov) Ar1 Lk st.R) ∧ Hid (ReadsP wr (offV w.heap.size wr ov) At1 (p.n - st.d) (fun i => p.F (st.d + i))) ∧ Hid (Ar1 = none → st.R.length = 0 ∧ cr1 = 0) ∧ Hid (Blk wr w.heap.size 37 (row 2 (bookC (.slice Ar1 st.R.length cr1) (.slice At1 (p.n - st.d) ct1)))) ∧ Hid (Blk wr (w.heap.size + 1) 37 (row 2 (bookC (.slice none 0 0) (.slice none 0 0)))) ∧ Hid (Mem.Own wr (w.heap.size + 2) 5 1 ov q st.out) ∧ Hid (Below w.heap.size w wr) ∧ w.heap.size + 2 ≤ wr.heap.size ∧ Hid (∀ i, i < sz k → st.last i < 256) ∧ Hid (∀ W, Below w.heap.size w W → Reads W W.heap.size Al (sz k) st.last)) (fun _ _ iv _ _ _ _ _ => M - (intOf iv).toNat)
 case atStart => exact ⟨0, 0, ⟨R, d, s, fun _ => 0⟩, Ar, cr, At, ct, As, cs, by omega, hid (by simp), by omega, rfl, rfl, rfl, by simp, HI, hct, HR0, HT0, HAr, H8, H12, hid (Mem.Own.nil _ _ _ _ _), HB0, by omega, Hsb, HS0⟩
 case round =>
  clear H8 H12 HR0 HT0 HB0 HI HAr hct hz HS0 Hsb
  obtain ⟨j, q, st, Ar1, cr1, At1, ct1, Al, cl, hj, hq, hqM, rfl, rfl, hst, hRl, HI, hct, HRw, HT, HAr, H8, H12, HO, HB, hsz, Hsl, HSl⟩ := hrel
  obtain ⟨Ao, co, rfl, hco, -⟩ := HO.out.slice'
  have Hst := hid hst
  clear hst
  by_cases hlt : j < N
  ·have hqn : q + sz k ≤ M := by
    have := Nat.mul_le_mul_right (sz k) (show j + 1 ≤ N from hlt)
    rw [Nat.succ_mul, ← hq.out, ← HM.out] at this
    exact this
   have hqI : (q : Int) + (sz k : Int) ≤ (M : Int) := by omega
   obtain ⟨ad, rfl, had, hcs⟩ := HXw.out (by omega)
   have hxb : Hid (∀ i, i < sz k → tb k x j i < 256) := hid (fun i hi => by unfold tb; rw [← hq.out]; exact Hx.out _ (by omega))
   have HXb : Hid (∀ W, Below w.heap.size w W → Reads W W.heap.size (some (ad.add q)) (sz k) (tb k x j)) := hid (fun W hW _ => ⟨_, rfl, by rw [add_block]; exact Nat.lt_of_lt_of_le had hW.size, fun i hi => by
    rw [add_add]
    unfold tb
    rw [← hq.out]
    exact (hW.cell (p := ad.add (q + i)) (by rw [add_block]; exact had)).trans (hcs _ (by omega))⟩)
   clear hcs
   have hao : ask6 k true true x j st = tb k x j := by unfold ask6; rw [if_neg (by simp)]
   obtain ⟨wx, hwx⟩ : ∃ W, W = wr := ⟨_, rfl⟩
   subst hwx
   have hBx : Below wx.heap.size wx wx := Below.refl _ _
   have hain : Hid (Reads wx wx.heap.size (some (ad.add q)) (sz k) (ask6 k true true x j st)) := hid (by rw [hao]; exact HXb.out _ HB.out)
   have hainb : Hid (∀ i, i < sz k → ask6 k true true x j st i < 256) := hid (fun i hi => by rw [hao]; exact hxb.out i hi)
   clear hao
   have H8x := hid (H8.out.below hBx H8.out.lt)
   have H12x := hid (H12.out.below hBx H12.out.lt)
   have HRx := hid (rows_offB HRw.out hBx)
   have HTx := hid (reads_offB HT.out hBx)
   have HOx := hid (HO.out.below hBx (Nat.le_refl _))
   have HBx := hid (HB.out.trans (hBx.mono HB.out.size))
   have hszx := hBx.size
   have hbx : w.heap.size < wx.heap.size := by omega
   have hvx : Hid (∀ g, (Value.slice Ao q co).ownBlock = some g → w.heap.size + 2 ≤ g ∧ g < wx.heap.size) := hid (fun g hg => World.ownsRow.lt HOx.out g hg)
   have HKx := hid ((HKw.out.below HBx.out).more HBx.out.size)
   rcases ht : turnC k Lk key p st.R st.d true (ask6 k true true x j st) with ⟨o, R2, d2⟩
   obtain ⟨hI2, hyb, -, hl2⟩ := turn_inv hf Hkb.out HI.out hainb.out ht
   have HTu := hid ht
   have HI2 := hid hI2
   have hd2 := hI2.hd
   have hl2 := len_le hl2
   have Hyb := hid hyb
   clear ht hI2 hyb hBx H8 H12 HRw HT HO HB
   go_wp2_with (first | (with_reducible refine wpl_val rfl _ (exec_cutB _ _ _ rfl ad M c q (sz k) _ rfl rfl rfl (by omega) hs1 (by omega)) ?_) | (with_reducible refine wpl_val rfl _ (exec_loadSt 37 _ rfl ⟨w.heap.size, 0, none⟩ rfl 2 _ (cells2 H8x.out) _ Tryz.underlying37 iRB) ?_))
   refine (hDo st.d st.R Ar1 cr1 At1 ct1 (some (ad.add q)) (c - q) (ask6 k true true x j st) _ (offV w.heap.size wx (.slice Ao q co)) (fun _ hg => hg.1) HRx.out HTx.out hct (by omega) HI.out.hd (by omega) HKx.out hain.out hainb.out HAr.out _ _ _ HTu.out).mono ?_
   rintro e w3 ⟨hB3, Ar2, cr2, At2, ct2, v2, ok2, rfl, hr3, ht3, hct2, hAr2, hres⟩
   have hbz : #[Value.slice Ar2 R2.length cr2, .slice At2 (p.n - d2) ct2] = row 2 (bookC (.slice Ar2 R2.length cr2) (.slice At2 (p.n - d2) ct2)) := (row2 _ _).symm
   have hB34 : Below w3.heap.size w3 (w3.alloc (.cells (row 2 (bookC (.slice Ar2 R2.length cr2) (.slice At2 (p.n - d2) ct2))) 37)) := (Below.refl _ _).alloc (Nat.le_refl _) _
   have hB4 : Below wx.heap.size wx (w3.alloc (.cells (row 2 (bookC (.slice Ar2 R2.length cr2) (.slice At2 (p.n - d2) ct2))) 37)) := hB3.trans (hB34.mono hB3.size)
   have hN4 : Blk (w3.alloc (.cells (row 2 (bookC (.slice Ar2 R2.length cr2) (.slice At2 (p.n - d2) ct2))) 37)) w3.heap.size 37 (row 2 (bookC (.slice Ar2 R2.length cr2) (.slice At2 (p.n - d2) ct2))) := Blk.fresh _ _ _
   have H84 := hid (H8x.out.below hB4 H8x.out.lt)
   obtain ⟨w5, hw5⟩ : ∃ W, W = (w3.alloc (.cells (row 2 (bookC (.slice Ar2 R2.length cr2) (.slice At2 (p.n - d2) ct2))) 37)).setRow w.heap.size (row 2 (bookC (.slice Ar2 R2.length cr2) (.slice At2 (p.n - d2) ct2))) := ⟨_, rfl⟩
   have HN4 := hid hN4
   have H85 := hid (show Blk w5 w.heap.size 37 (row 2 (bookC (.slice Ar2 R2.length cr2) (.slice At2 (p.n - d2) ct2))) from by rw [hw5]; exact H84.out.setRow _)
   have H125 := hid (show Blk w5 (w.heap.size + 1) 37 _ from by rw [hw5]; exact (H12x.out.below hB4 H12x.out.lt).otherRow w.heap.size _ (by omega))
   have hvl : ∀ g, (Value.slice Ao q co).ownBlock = some g → g < wx.heap.size := fun g hg => (hvx.out g hg).2
   have HR5 := hid (show RowsAtP w5 (offV w.heap.size w5 (.slice Ao q co)) Ar2 Lk R2 from by rw [hw5]; exact rows_offL hr3 hbx hvl _ _)
   have HT5 := hid (show ReadsP w5 (offV w.heap.size w5 (.slice Ao q co)) At2 (p.n - d2) (fun i => p.F (d2 + i)) from by rw [hw5]; exact reads_offL ht3 hbx hvl _ _)
   have HO5 := hid (show Mem.Own w5 (w.heap.size + 2) 5 1 (.slice Ao q co) q st.out from by rw [hw5]; exact own_row (HOx.out.below hB4 (Nat.le_refl _)) H84.out _)
   have hs45 : (w3.alloc (.cells (row 2 (bookC (.slice Ar2 R2.length cr2) (.slice At2 (p.n - d2) ct2))) 37)).heap.size = w5.heap.size := by rw [hw5]; simp
   have hsz5 : w.heap.size + 2 ≤ w5.heap.size := by have := hB4.size; omega
   have HB5 := hid (show Below w.heap.size w w5 from by rw [hw5]; exact below_setRow' (HBx.out.trans (hB4.mono HBx.out.size)) (Nat.le_refl _) _)
   have hres5 : (∃ y Av cv, o = some y ∧ ok2 = true ∧ v2 = .slice Av (sz k) cv ∧ ReadsP w5 (offV w.heap.size w5 (.slice Ao q co)) Av (sz k) y) ∨ (o = none ∧ ok2 = false) := by
    rcases hres with ⟨y, Av, cv, e1, e2, e3, e4⟩ | h
    ·refine .inl ⟨y, Av, cv, e1, e2, e3, ?_⟩
     rw [hw5]
     exact reads_offL e4 hbx hvl _ _
    exact .inr h
   clear hres hr3 ht3 hN4 hB34 hB3 hB4 H8x H12x HRx HTx HKx HOx HBx hain hs45 hszx hvl hbx
   rcases hres5 with ⟨y, Av, cv, rfl, rfl, rfl, hv5⟩ | ⟨rfl, rfl⟩
   ·have Hv5 := hid hv5
    have Hnx : Hid (mNext p k Lk key true true x j st = some ⟨R2, d2, tb k x j, cat (j * sz k) st.out (xr y st.last)⟩) := hid (by rw [mNext_some HTu.out]; simp)
    clear hv5 HTu
    have hsgt : ¬ (sz k : Int) ≤ 0 := by omega
    go_wp2_with (first | (with_reducible refine wpl_alloc rfl 37 rfl _ zRB2 ?_) | (with_reducible refine wpl_store_newS rfl 37 _ _ rfl w3 _ 2 _ (one2 _ _ _ _ _ _) rfl rfl 37 iRB (row_size _ _) ?_) | (with_reducible refine wpl_val rfl _ (exec_loadSt 37 _ rfl ⟨w3.heap.size, 0, none⟩ rfl 2 _ (cells2 HN4.out) _ Tryz.underlying37 iRB) ?_) | (with_reducible refine wpl_store_blk rfl 37 _ _ rfl w.heap.size (row 2 (bookC (.slice Ar2 R2.length cr2) (.slice At2 (p.n - d2) ct2))) rfl rfl 37 _ H84.out (iRB' _) (by simp [row_size]) (one2 _ _ _ _ _ _) ?_))
    rw [← hw5]
    clear hw5 hbz HN4 H84
    refine (rxor_any _ _ (sz k) cv cl y st.last _ (by omega) (Hyb.out y rfl) Hsl.out (Hv5.out.more (fun _ hg => hg.1)) (HSl.out _ HB5.out)).mono ?_
    rintro e w6 ⟨v6, rfl, ho6, hB6⟩
    obtain ⟨A6, c6, rfl, hc6, -⟩ := ho6.slice'
    have Hx6 := hid ho6.reads
    have H86 := hid (H85.out.below hB6 H85.out.lt)
    have H126 := hid (H125.out.below hB6 H125.out.lt)
    have HR6 := hid (rows_offB HR5.out hB6)
    have HT6 := hid (reads_offB HT5.out hB6)
    have HO6 := hid (HO5.out.below hB6 (Nat.le_refl _))
    have HB6 := hid (HB5.out.trans (hB6.mono HB5.out.size))
    have hsz6 : w.heap.size + 2 ≤ w6.heap.size := Nat.le_trans hsz5 hB6.size
    have hvx6 : Hid (∀ g, (Value.slice Ao q co).ownBlock = some g → w.heap.size + 2 ≤ g) := hid (fun g hg => (hvx.out g hg).1)
    obtain ⟨ad6, rfl, hb6, hc6c⟩ := Hx6.out hs1
    clear ho6 hB6 H85 H125 HR5 HT5 HO5 HB5 hsz5 Hv5 hvx Hx6
    go_wp2_with (first | (with_reducible refine wpl_val rfl _ (exec_cutB _ _ _ rfl ad M c q (sz k) _ rfl rfl rfl (by omega) hs1 (by omega)) ?_) | (at_builtin; refine wpl_app_at rfl _ _ 22 rfl (w.heap.size + 2) 5 Tryz.underlying22 info_u8 _ q _ rfl HO6.out ad6 (sz k) c6 (xr y st.last) hc6c rfl (by omega) hsz6 ?_))
    intro v7 w7 ho7 hB7 hgr hov
    obtain ⟨A7, c7, rfl, hc7, -⟩ := ho7.slice'
    have hlo : some w.heap.size ≠ (Value.slice Ao q co).ownBlock := fun e => by have := hvx6.out _ e.symm; omega
    have hlo1 : some (w.heap.size + 1) ≠ (Value.slice Ao q co).ownBlock := fun e => by have := hvx6.out _ e.symm; omega
    have H87 := hid (H86.out.grown hgr hlo)
    have H127 := hid (H126.out.grown hgr hlo1)
    have HR7 := hid (rows_offG HR6.out hgr hov)
    have HT7 := hid (reads_offG HT6.out hgr hov)
    have HB7 := hid (HB6.out.trans (hB7.mono (show w.heap.size ≤ w.heap.size + 2 by omega)))
    have hsz7 : w.heap.size + 2 ≤ w7.heap.size := Nat.le_trans hsz6 hB7.size
    have HO7 : Hid (Mem.Own w7 (w.heap.size + 2) 5 1 (.slice A7 (q + sz k) c7) (q + sz k) (cat (j * sz k) st.out (xr y st.last))) := hid (by have e := hq.out; rw [← e]; exact ho7)
    have hq7 : Hid (q + sz k = (j + 1) * sz k) := hid (by rw [hq.out, Nat.succ_mul])
    have HAr2 := hid hAr2
    clear hlo hlo1 hgr hov ho7 hB7 H86 H126 HR6 HT6 HO6 HB6 hsz6 hvx6 hb6 hc6c hAr2
    go_wp2_with fail
    go_round
    case rel => exact ⟨j + 1, q + sz k, ⟨R2, d2, tb k x j, cat (j * sz k) st.out (xr y st.last)⟩, Ar2, cr2, At2, ct2, some (ad.add q), c - q, by omega, hq7, hqn, val_int (by omega), rfl, mAt_next Hst.out Hnx.out, by show R2.length ≤ _; omega, HI2, hct2, HR7, HT7, HAr2, H87, H127, HO7, HB7, hsz7, hxb, HXb⟩
    case measure => simp [intOf]; omega
   have Hnx := hid (mNext_none HTu.out)
   clear HTu
   have hjq : (0 : Int) ≤ (q : Int) ∧ (0 : Int) < (sz k : Int) ∧ (q : Int) / (sz k : Int) = (j : Int) ∧ (0 : Int) ≤ (j : Int) ∧ (j : Int) ≤ 100000 := by
    have hjM : j ≤ 1000 := Nat.le_trans (Nat.le_trans (Nat.le_mul_of_pos_right j hs1) (Nat.le_of_eq hq.out.symm)) (by omega)
    refine ⟨by omega, by omega, ?_, by omega, by omega⟩
    rw [hq.out, ← Int.natCast_ediv, Nat.mul_div_cancel _ hs1]
   have Hjq := hid hjq
   clear hjq
   go_wp2_with (first | (with_reducible refine wpl_alloc rfl 37 rfl _ zRB2 ?_) | (with_reducible refine wpl_store_newS rfl 37 _ _ rfl w3 _ 2 _ (one2 _ _ _ _ _ _) rfl rfl 37 iRB (row_size _ _) ?_) | (with_reducible refine wpl_val rfl _ (exec_loadSt 37 _ rfl ⟨w3.heap.size, 0, none⟩ rfl 2 _ (cells2 HN4.out) _ Tryz.underlying37 iRB) ?_) | (with_reducible refine wpl_store_blk rfl 37 _ _ rfl w.heap.size (row 2 (bookC (.slice Ar2 R2.length cr2) (.slice At2 (p.n - d2) ct2))) rfl rfl 37 _ H84.out (iRB' _) (by simp [row_size]) (one2 _ _ _ _ _ _) ?_))
   rw [← hw5]
   clear hw5 hbz HN4 H84 HR5 HT5 HO5 hvx Hyb HI2 hAr2
   have d8 : ∀ W, KeptS [w.heap.size + 1] w5 W → ∀ i, i < 2 → W.cell? ((⟨w.heap.size, 0, none⟩ : Addr).add i) = some (bookC (.slice Ar2 R2.length cr2) (.slice At2 (p.n - d2) ct2) i) := fun W hW => cells2 (hW.blk H85.out (by simp))
   refine wp_region_held_drew (S := fun W => KeptS [w.heap.size + 1] w5 W) (by kernel_rfl) (KeptS.of _ (Below.refl _ _).drew) (fun hS0 => ?_)
   have h12b : Blk w5.drew (w.heap.size + 1) 37 (row 2 (bookC (.slice none 0 0) (.slice none 0 0))) := H125.out
   refine ztk (i := 0) (v := .agg (row 2 (bookC (.slice Ar2 R2.length cr2) (.slice At2 (p.n - d2) ct2)))) rfl (fun W hW => exec_loadSt 37 _ rfl ⟨w.heap.size, 0, none⟩ rfl 2 _ (d8 W hW) _ Tryz.underlying37 iRB) hS0 ?_
   (try simp only [Act.put,zza,zzb,zzc,zzd,zze,zzf])
   refine ztk (i := 1) (v := .int .i64 (q : Int)) rfl (fun _ _ => exec_move _ rfl _ rfl) hS0 ?_
   (try simp only [Act.put,zza,zzb,zzc,zzd,zze,zzf])
   refine ztk (i := 2) (v := .int .i64 (sz k : Int)) rfl (fun _ _ => exec_move _ rfl _ rfl) hS0 ?_
   (try simp only [Act.put,zza,zzb,zzc,zzd,zze,zzf])
   refine ztk (i := 3) (v := .int .i64 (j : Int)) rfl (fun _ _ => exec_quo6 _ _ _ _ rfl _ _ _ rfl rfl Hjq.out) hS0 ?_
   (try simp only [Act.put,zza,zzb,zzc,zzd,zze,zzf])
   refine wpAnyH_ready (rs := [4]) (by kernel_rfl) (by simp) (ready_one rfl rfl (fun K hK => ?_))
   (try simp only [Act.put,zza,zzb,zzc,zzd,zze,zzf])
   with_reducible refine wp_store_blk 37 _ _ rfl (w.heap.size + 1) (row 2 (bookC (.slice Ar2 R2.length cr2) (.slice At2 (p.n - d2) ct2))) rfl rfl 37 _ h12b (iRB' _) (by simp [row_size]) (one2 _ _ _ _ _ _) ?_
   (try simp only [Act.put,zza,zzb,zzc,zzd,zze,zzf])
   refine hK.out _ _ (keptS_row hS0 (by simp) _) (fun hSz => ?_)
   (try simp only [Act.put,zza,zzb,zzc,zzd,zze,zzf])
   refine ztk (i := 5) (v := .slice none 0 0) rfl (fun _ _ => exec_assign _ rfl _ rfl) hSz ?_
   (try simp only [Act.put,zza,zzb,zzc,zzd,zze,zzf])
   refine ztk (i := 6) (v := .int .i64 (j : Int)) rfl (fun _ _ => exec_assign _ rfl _ rfl) hSz ?_
   (try simp only [Act.put,zza,zzb,zzc,zzd,zze,zzf])
   refine wpAnyH_done (by kernel_rfl) ?_ _
   clear hK
   have hBf : Below w.heap.size w _ := HB5.out.trans (hSz.below (B := w.heap.size) (by simp) (by omega))
   go_wp2_with fail
   refine ret_row3 Tryz.results12 rfl (w.heap.size + 1) rfl _ rfl _ rfl 37 2 _ (h12b.setRow _) _ Tryz.underlying37 iRB ⟨hBf, .inr ⟨j, st, _, hlt, Hst.out, Hnx.out, rfl, bkv _ _ _ _ _ _⟩⟩
  have hjN : j = N := by omega
  have hqI : ¬ (q : Int) + (sz k : Int) ≤ (M : Int) := by have := hq.out; have := HM.out; rw [← hjN, ← hq.out] at this; omega
  have hc8 := cells2 H8.out
  go_wp2_with (first
   | (with_reducible refine wpl_val rfl _ (exec_loadSt 37 _ rfl ⟨w.heap.size, 0, none⟩ rfl 2 _ hc8 _ Tryz.underlying37 iRB) ?_)
   | (with_reducible refine wpl_store_blk rfl 37 _ _ rfl (w.heap.size + 1) (row 2 (bookC (.slice Ar1 st.R.length cr1) (.slice At1 (p.n - st.d) ct1))) rfl rfl 37 _ H12.out (iRB' _) (by simp [row_size]) (one2 _ _ _ _ _ _) ?_))
  have hBf := below_setRow' HB.out (Nat.le_succ w.heap.size) (row 2 (bookC (.slice Ar1 st.R.length cr1) (.slice At1 (p.n - st.d) ct1)))
  have hof := own_row HO.out H12.out (row 2 (bookC (.slice Ar1 st.R.length cr1) (.slice At1 (p.n - st.d) ct1)))
  have hst2 := Hst.out
  rw [hjN] at hst2
  have hqN : q = N * sz k := by rw [hq.out, hjN]
  refine ret_row3 Tryz.results12 rfl (w.heap.size + 1) rfl _ rfl _ rfl 37 2 _ (H12.out.setRow _) _ Tryz.underlying37 iRB ⟨hBf, .inl ⟨st, .agg (row 2 (bookC (.slice Ar1 st.R.length cr1) (.slice At1 (p.n - st.d) ct1))), .slice Ao q co, hst2, rfl, ?_, bkv _ _ _ _ _ _⟩⟩
  rw [← hqN]
  exact own_base6 hof (by omega)
end Go.Proofs.YtlmnoapoofmmnaaGreatDoor.R6
