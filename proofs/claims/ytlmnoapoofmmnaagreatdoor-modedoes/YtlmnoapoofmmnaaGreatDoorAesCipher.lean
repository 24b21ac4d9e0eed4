/-
 What aes.Encrypt and aes.Decrypt return: contracts over the loaded program.
-/
import Derived.Test.YtlmnoapoofmmnaaGreatDoorAesWords
namespace Go.Proofs.YtlmnoapoofmmnaaGreatDoor.Aes
open Go.ChangeShapes Go.WideShapes Go.ChangeAt Go.RowKit Mem
def wsz (L : Nat) : Nat := 16 * (rnd L + 1)
def IsKey (L : Nat) : Prop := L = 16 ∨ L = 24 ∨ L = 32
theorem words_any (A : Option Addr) (L c : Nat) (hL : IsKey L) (key : Nat → Nat) (w : World) (hk : ∀ i, i < L → key i < 256) (hR : Reads w w.heap.size A L key) :
  Calls Tryz.prog 84 #[.slice A L c] w fun e w' => e = .returned (.tuple #[.slice (some ⟨w.heap.size, 0, none⟩) (wsz L) (wsz L), .nilIface]) ∧ Blk w' w.heap.size 5 (row (wsz L) (b8 (words L key))) ∧ Below w.heap.size w w' := by
 rcases hL with rfl | rfl | rfl
 ·exact words16 A c key w hk hR
 ·exact words24 A c key w hk hR
 exact words32 A c key w hk hR
theorem wsz_eq (L : Nat) : wsz L = 16 * rnd L + 16 := by unfold wsz; omega
theorem rnd_bound {L : Nat} (h : IsKey L) : 10 ≤ rnd L ∧ rnd L ≤ 14 := by rcases h with rfl | rfl | rfl <;> decide
def St (w0 wr : World) (hs n : Nat) (b m ws : Nat → Nat) : Prop :=
 Blk wr hs 103 (row 16 (b8 b)) ∧ Blk wr (hs + 1) 103 (row 16 (b8 m)) ∧ Blk wr (hs + 2) 5 (row n (b8 ws)) ∧ Below hs w0 wr
section
variable {w0 wr w' : World} {hs n : Nat} {b m ws : Nat → Nat}
theorem St.blk (h : St w0 wr hs n b m ws) : Blk wr hs 103 (row 16 (b8 b)) := h.1
theorem St.res (h : St w0 wr hs n b m ws) : Blk wr (hs + 1) 103 (row 16 (b8 m)) := h.2.1
theorem St.bel (h : St w0 wr hs n b m ws) : Below hs w0 wr := h.2.2.2
theorem St.below (h : St w0 wr hs n b m ws) (hb : Below wr.heap.size wr w') : St w0 w' hs n b m ws :=
 ⟨h.1.below hb h.1.lt, h.2.1.below hb h.2.1.lt, h.2.2.1.below hb h.2.2.1.lt, h.2.2.2.trans (hb.mono (Nat.le_of_lt h.1.lt))⟩
theorem St.put (h : St w0 wr hs n b m ws) (b' : Nat → Nat) : St w0 (wr.setRow hs (row 16 (b8 b'))) hs n b' m ws :=
 ⟨h.1.setRow _, h.2.1.otherRow _ _ (by omega), h.2.2.1.otherRow _ _ (by omega), below_setRow' h.2.2.2 (Nat.le_refl _) _⟩
theorem St.out (h : St w0 wr hs n b m ws) (b' : Nat → Nat) : St w0 (wr.setRow (hs + 1) (row 16 (b8 b'))) hs n b b' ws :=
 ⟨h.1.otherRow _ _ (by omega), h.2.1.setRow _, h.2.2.1.otherRow _ _ (by omega), below_setRow' h.2.2.2 (by omega) _⟩
theorem St.reads (h : St w0 wr hs n b m ws) : Reads wr wr.heap.size (some ⟨hs + 2, 0, none⟩) n ws := h.2.2.1.reads
end
theorem rk' (f : Nat → Nat) (A : Option Addr) (n c : Nat) (z : Int) (r : Nat) (hz : z = r) (ws : Nat → Nat) (w : World) (hf : By16 f) (hws : ∀ i, i < n → ws i < 256) (hr : r < 16) (hn : 16 * r + 16 ≤ n) (hR : Reads w w.heap.size A n ws) :
  Calls Tryz.prog 86 #[.agg (row 16 (b8 f)), .slice A n c, .int .i64 z] w fun e w' => e = .returned (.agg (row 16 (b8 (rk ws r f)))) ∧ Below w.heap.size w w' := by
 subst hz; exact rk_any f A n c r ws w hf hws hr hn _ (Nat.le_refl _) hR
theorem built16 : Tryz.prog.built 103 [] = some (row 16 (b8 fun _ => 0)) := by kernel_rfl
theorem enc_bad (A : Option Addr) (L c : Nat) (hL : rnd L = 0) (b : Nat → Nat) (w : World) :
  Calls Tryz.prog 73 #[.slice A L c, .agg (row 16 (b8 b))] w fun e w' => e = .returned (.tuple #[.agg (row 16 (b8 fun _ => 0)), .iface 56 (.int .i64 2)]) ∧ Below w.heap.size w w' := by
 have HL := hid hL
 clear hL
 have hb2 := two_new w b (fun _ => 0) 16 103
 have hB2 : Below w.heap.size w ((w.alloc (.cells (row 16 (b8 b)) 103)).alloc (.cells (row 16 (b8 fun _ => 0)) 103)) := ((Below.refl _ _).alloc (Nat.le_refl _) _).alloc (by simp) _
 go_enter Tryz.func73, Tryz.ntmps73
 go_wp2_with (first
  | (with_reducible refine wpl_alloc rfl 103 rfl _ z16 ?_)
  | (go_at_call 84; refine (words_bad A L c HL.out _).mono ?_; rintro e w' ⟨rfl, rfl⟩)
  | (with_reducible refine wpl_build0 rfl 103 rfl _ built16 ?_)
  | (with_reducible refine wpl_store rfl 103 _ _ rfl _ _ rfl rfl 103 _ hb2 (i16' _) (by simp [row_size]) (one_b8 _ _) ?_))
 exact ret_row_tmp Tryz.results73 rfl (w.heap.size + 1) rfl _ rfl 103 16 _ (hb2.setRow _) 5 Tryz.underlying103 i16 ⟨rfl, below_setRow' hB2 (by omega) _⟩
set_option maxRecDepth 100000 in
set_option maxHeartbeats 4000000 in
theorem enc_any (A : Option Addr) (L c : Nat) (hL : IsKey L) (key b : Nat → Nat) (w : World) (hk : ∀ i, i < L → key i < 256) (hb : By16 b) (hR : Reads w w.heap.size A L key) :
  Calls Tryz.prog 73 #[.slice A L c, .agg (row 16 (b8 b))] w fun e w' => e = .returned (.tuple #[.agg (row 16 (b8 (enc (words L key) (rnd L) b))), .nilIface]) ∧ Below w.heap.size w w' := by
 have HL := hid hL
 have Hk := hid hk
 have Hb := hid hb
 have hb1 := (Blk.fresh w 103 (row 16 (b8 b))).alloc (.cells (row 16 (b8 fun _ => 0)) 103)
 have hb2 := two_new w b (fun _ => 0) 16 103
 have hB2 : Below w.heap.size w ((w.alloc (.cells (row 16 (b8 b)) 103)).alloc (.cells (row 16 (b8 fun _ => 0)) 103)) := ((Below.refl _ _).alloc (Nat.le_refl _) _).alloc (by simp) _
 have hR2 := (hR.below hB2).more hB2.size
 have Hn := hid (wsz_eq L)
 have Hw := hid (fun i (_ : i < wsz L) => ex_lt L key (more L) hk i)
 have HE := hid (fun r hr => encTo_by (ws := words L key) (N := rnd L) (n := wsz L) (fun i _ => ex_lt L key (more L) hk i) (by rw [wsz_eq]; omega) hb r hr)
 obtain ⟨hN1, hN2⟩ := rnd_bound hL
 have hn1 : wsz L ≤ 1000 := by rw [wsz_eq]; omega
 have Hlast : Hid (((wsz L / 16 : Nat) - 1 : Int) = (rnd L : Nat)) := hid (by rw [wsz_eq]; omega)
 clear hL hk hb hR
 go_enter Tryz.func73, Tryz.ntmps73
 go_wp2_with (with_reducible refine wpl_alloc rfl 103 rfl _ z16 ?_)
 refine (words_any A L c HL.out key _ Hk.out hR2).mono ?_
 rintro e w1 ⟨rfl, hbw, hB3⟩
 have hS : St w w1 w.heap.size (wsz L) b (fun _ => 0) (words L key) := ⟨hb1.below hB3 (by simp; omega), hb2.below hB3 (by simp), by simpa using hbw, hB2.trans (hB3.mono (by simp; omega))⟩
 clear hb1 hb2 hB2 hR2 hbw hB3
 go_wp2_with fail
 refine (last_any _ _ _ hn1 _).mono ?_
 rintro e w' ⟨rfl, rfl⟩
 rw [Hlast.out]
 go_wp2_with (with_reducible refine wpl_load rfl 103 _ rfl _ rfl 103 _ hS.blk 16 5 Tryz.underlying103 (i16' _) ?_)
 refine (rk' b _ (wsz L) (wsz L) 0 0 rfl (words L key) _ Hb.out Hw.out (by omega) (by rw [Hn.out]; omega) hS.reads).mono ?_
 rintro e w2 ⟨rfl, hB4⟩
 have hS2 := hS.below hB4
 clear hS hB4
 go_wp2_with (with_reducible refine wpl_store rfl 103 _ _ rfl _ _ rfl rfl 103 _ hS2.blk (i16' _) (by simp [row_size]) (one_b8 _ _) ?_)
 go_loopw [9] (fun i wr => ∃ (k : Nat), k ≤ rnd L ∧ i = .int .i64 ((k : Int) + 1) ∧ St w wr w.heap.size (wsz L) (encTo (words L key) (rnd L) b k) (fun _ => 0) (words L key)) (fun i _ => rnd L + 1 - (intOf i).toNat)
 case atStart => exact ⟨0, by omega, rfl, hS2.put _⟩
 case round =>
  clear hS2
  obtain ⟨k, hk, rfl, hS⟩ := hrel
  by_cases hlt : k < rnd L
  ·have Hby := hid (HE.out k (by omega))
   go_wp2_with (with_reducible refine wpl_load rfl 103 _ rfl _ rfl 103 _ hS.blk 16 5 Tryz.underlying103 (i16' _) ?_)
   refine (eachBox _ _ Hby.out).mono ?_
   rintro e w3 ⟨rfl, hB3⟩
   have hS3 := hS.below hB3
   clear hS hB3
   go_wp2_with fail
   refine (rows_any _ _).mono ?_
   rintro e w4 ⟨rfl, hB4⟩
   have hS4 := (hS3.below hB4).put (rows (each Gf.box (encTo (words L key) (rnd L) b k)))
   have hS4' := hS3.below hB4
   clear hS3 hB4
   by_cases hl2 : k + 1 < rnd L
   ·have He : Hid (encTo (words L key) (rnd L) b (k + 1) = rk (words L key) (k + 1) (mix fE (rows (each Gf.box (encTo (words L key) (rnd L) b k))))) := hid (by show rk _ _ (if k + 1 < rnd L then _ else _) = _; rw [if_pos hl2])
    go_wp2_with (first
     | (with_reducible refine wpl_store rfl 103 _ _ rfl _ _ rfl rfl 103 _ hS4'.blk (i16' _) (by simp [row_size]) (one_b8 _ _) ?_)
     | (with_reducible refine wpl_load rfl 103 _ rfl _ rfl 103 _ hS4.blk 16 5 Tryz.underlying103 (i16' _) ?_)
     | ((with_reducible refine wpl_build4 rfl 146 _ _ _ _ rfl fE _ _ _ _ rfl rfl rfl rfl ?_ ?_ ?_ ?_ built4 ?_); exact rfl; exact rfl; exact rfl; exact rfl))
    refine (mix_any fE _ _ (rows_by (box_by Hby.out)) fE_lt).mono ?_
    rintro e w5 ⟨rfl, hB5⟩
    have hS5' := hS4.below hB5
    have hS5 := hS5'.put (mix fE (rows (each Gf.box (encTo (words L key) (rnd L) b k))))
    clear hS4 hS4' hB5
    go_wp2_with (first
     | (with_reducible refine wpl_store rfl 103 _ _ rfl _ _ rfl rfl 103 _ hS5'.blk (i16' _) (by simp [row_size]) (one_b8 _ _) ?_)
     | (with_reducible refine wpl_load rfl 103 _ rfl _ rfl 103 _ hS5.blk 16 5 Tryz.underlying103 (i16' _) ?_))
    refine (rk' _ _ (wsz L) (wsz L) _ (k + 1) (by omega) (words L key) _ (mix_by _ _ fE_lt) Hw.out (by omega) (by rw [Hn.out]; omega) hS5.reads).mono ?_
    rintro e w6 ⟨rfl, hB6⟩
    have hS6 := hS5.below hB6
    clear hS5 hS5' hB6
    go_wp2_with (with_reducible refine wpl_store rfl 103 _ _ rfl _ _ rfl rfl 103 _ hS6.blk (i16' _) (by simp [row_size]) (one_b8 _ _) ?_)
    go_round
    case rel => exact ⟨k + 1, by omega, val_int (by omega), by rw [He.out]; exact hS6.put _⟩
    case measure => simp [intOf]; omega
   have He : Hid (encTo (words L key) (rnd L) b (k + 1) = rk (words L key) (k + 1) (rows (each Gf.box (encTo (words L key) (rnd L) b k)))) := hid (by show rk _ _ (if k + 1 < rnd L then _ else _) = _; rw [if_neg hl2])
   have hl3 : (k : Int) + 1 = (rnd L : Nat) := by omega
   have hl3' : decide ((k : Int) + 1 < (rnd L : Nat)) = false := by simp; omega
   clear hl3
   go_wp2_with (first
    | (with_reducible refine wpl_store rfl 103 _ _ rfl _ _ rfl rfl 103 _ hS4'.blk (i16' _) (by simp [row_size]) (one_b8 _ _) ?_)
    | (with_reducible refine wpl_load rfl 103 _ rfl _ rfl 103 _ hS4.blk 16 5 Tryz.underlying103 (i16' _) ?_))
   refine (rk' _ _ (wsz L) (wsz L) _ (k + 1) (by omega) (words L key) _ (rows_by (box_by Hby.out)) Hw.out (by omega) (by rw [Hn.out]; omega) hS4.reads).mono ?_
   rintro e w6 ⟨rfl, hB6⟩
   have hS6 := hS4.below hB6
   clear hS4 hS4' hB6
   go_wp2_with (with_reducible refine wpl_store rfl 103 _ _ rfl _ _ rfl rfl 103 _ hS6.blk (i16' _) (by simp [row_size]) (one_b8 _ _) ?_)
   go_round
   case rel => exact ⟨k + 1, by omega, val_int (by omega), by rw [He.out]; exact hS6.put _⟩
   case measure => simp [intOf]; omega
  have Hkn : Hid (k = rnd L) := hid (by omega)
  go_wp2_with (first
   | (with_reducible refine wpl_load rfl 103 _ rfl _ rfl 103 _ hS.blk 16 5 Tryz.underlying103 (i16' _) ?_)
   | (with_reducible refine wpl_store rfl 103 _ _ rfl _ _ rfl rfl 103 _ hS.res (i16' _) (by simp [row_size]) (one_b8 _ _) ?_))
  exact ret_row_tmp Tryz.results73 rfl (w.heap.size + 1) rfl _ rfl 103 16 _ (hS.res.setRow _) 5 Tryz.underlying103 i16 ⟨by rw [Hkn.out]; rfl, below_setRow' hS.bel (by omega) _⟩
set_option maxRecDepth 100000 in
set_option maxHeartbeats 4000000 in
theorem dec_any (A : Option Addr) (L c : Nat) (hL : IsKey L) (key b : Nat → Nat) (w : World) (hk : ∀ i, i < L → key i < 256) (hb : By16 b) (hR : Reads w w.heap.size A L key) :
  Calls Tryz.prog 74 #[.slice A L c, .agg (row 16 (b8 b))] w fun e w' => e = .returned (.tuple #[.agg (row 16 (b8 (dec (words L key) (rnd L) b))), .nilIface]) ∧ Below w.heap.size w w' := by
 have HL := hid hL
 have Hk := hid hk
 have Hb := hid hb
 have hb1 := (Blk.fresh w 103 (row 16 (b8 b))).alloc (.cells (row 16 (b8 fun _ => 0)) 103)
 have hb2 := two_new w b (fun _ => 0) 16 103
 have hB2 : Below w.heap.size w ((w.alloc (.cells (row 16 (b8 b)) 103)).alloc (.cells (row 16 (b8 fun _ => 0)) 103)) := ((Below.refl _ _).alloc (Nat.le_refl _) _).alloc (by simp) _
 have hR2 := (hR.below hB2).more hB2.size
 have Hn := hid (wsz_eq L)
 have Hw := hid (fun i (_ : i < wsz L) => ex_lt L key (more L) hk i)
 have HE := hid (fun r hr => decTo_by (ws := words L key) (N := rnd L) (n := wsz L) (fun i _ => ex_lt L key (more L) hk i) (by rw [wsz_eq]; omega) hb r hr)
 obtain ⟨hN1, hN2⟩ := rnd_bound hL
 have hn1 : wsz L ≤ 1000 := by rw [wsz_eq]; omega
 have Hlast : Hid (((wsz L / 16 : Nat) - 1 : Int) = (rnd L : Nat)) := hid (by rw [wsz_eq]; omega)
 clear hL hk hb hR
 go_enter Tryz.func74, Tryz.ntmps74
 go_wp2_with (with_reducible refine wpl_alloc rfl 103 rfl _ z16 ?_)
 refine (words_any A L c HL.out key _ Hk.out hR2).mono ?_
 rintro e w1 ⟨rfl, hbw, hB3⟩
 have hS : St w w1 w.heap.size (wsz L) b (fun _ => 0) (words L key) := ⟨hb1.below hB3 (by simp; omega), hb2.below hB3 (by simp), by simpa using hbw, hB2.trans (hB3.mono (by simp; omega))⟩
 clear hb1 hb2 hB2 hR2 hbw hB3
 go_wp2_with fail
 refine (last_any _ _ _ hn1 _).mono ?_
 rintro e w' ⟨rfl, rfl⟩
 rw [Hlast.out]
 go_wp2_with fail
 go_loopw [9] (fun i wr => ∃ (j : Nat), j ≤ rnd L ∧ i = .int .i64 ((rnd L : Nat) - (j : Int)) ∧ St w wr w.heap.size (wsz L) (decTo (words L key) (rnd L) b j) (fun _ => 0) (words L key)) (fun i _ => (intOf i).toNat)
 case atStart => exact ⟨0, by omega, val_int (by omega), hS⟩
 case round =>
  clear hS
  obtain ⟨j, hk, rfl, hS⟩ := hrel
  by_cases hlt : j < rnd L
  ·have Hby := hid (HE.out j (by omega))
   have Hrb : Hid (By16 (rk (words L key) (rnd L - j) (decTo (words L key) (rnd L) b j))) := hid (rk_by Hby.out Hw.out (by rw [Hn.out]; omega))
   go_wp2_with (with_reducible refine wpl_load rfl 103 _ rfl _ rfl 103 _ hS.blk 16 5 Tryz.underlying103 (i16' _) ?_)
   refine (rk' _ _ (wsz L) (wsz L) _ (rnd L - j) (by omega) (words L key) _ Hby.out Hw.out (by omega) (by rw [Hn.out]; omega) hS.reads).mono ?_
   rintro e w3 ⟨rfl, hB3⟩
   have hS3' := hS.below hB3
   have hS3 := hS3'.put (rk (words L key) (rnd L - j) (decTo (words L key) (rnd L) b j))
   clear hS hB3
   by_cases hl2 : 0 < j
   ·have He : Hid (decTo (words L key) (rnd L) b (j + 1) = each Gf.unbox (rowsB (mix fD (rk (words L key) (rnd L - j) (decTo (words L key) (rnd L) b j))))) := hid (by show each _ (rowsB (if rnd L - j < rnd L then _ else _)) = _; rw [if_pos (by omega)])
    go_wp2_with (first
     | (with_reducible refine wpl_store rfl 103 _ _ rfl _ _ rfl rfl 103 _ hS3'.blk (i16' _) (by simp [row_size]) (one_b8 _ _) ?_)
     | (with_reducible refine wpl_load rfl 103 _ rfl _ rfl 103 _ hS3.blk 16 5 Tryz.underlying103 (i16' _) ?_)
     | ((with_reducible refine wpl_build4 rfl 146 _ _ _ _ rfl fD _ _ _ _ rfl rfl rfl rfl ?_ ?_ ?_ ?_ built4 ?_); exact rfl; exact rfl; exact rfl; exact rfl))
    refine (mix_any fD _ _ Hrb.out fD_lt).mono ?_
    rintro e w5 ⟨rfl, hB5⟩
    have hS5' := hS3.below hB5
    have hS5 := hS5'.put (mix fD (rk (words L key) (rnd L - j) (decTo (words L key) (rnd L) b j)))
    clear hS3 hS3' hB5
    go_wp2_with (first
     | (with_reducible refine wpl_store rfl 103 _ _ rfl _ _ rfl rfl 103 _ hS5'.blk (i16' _) (by simp [row_size]) (one_b8 _ _) ?_)
     | (with_reducible refine wpl_load rfl 103 _ rfl _ rfl 103 _ hS5.blk 16 5 Tryz.underlying103 (i16' _) ?_))
    refine (rowsB_any _ _).mono ?_
    rintro e w6 ⟨rfl, hB6⟩
    have hS6 := hS5.below hB6
    clear hS5 hS5' hB6
    go_wp2_with fail
    refine (eachUnbox _ _ (rowsB_by (mix_by _ _ fD_lt))).mono ?_
    rintro e w7 ⟨rfl, hB7⟩
    have hS7 := hS6.below hB7
    clear hS6 hB7
    go_wp2_with (with_reducible refine wpl_store rfl 103 _ _ rfl _ _ rfl rfl 103 _ hS7.blk (i16' _) (by simp [row_size]) (one_b8 _ _) ?_)
    go_round
    case rel => exact ⟨j + 1, by omega, val_int (by omega), by rw [He.out]; exact hS7.put _⟩
    case measure => simp [intOf]; omega
   obtain rfl : j = 0 := by omega
   have He : Hid (decTo (words L key) (rnd L) b (0 + 1) = each Gf.unbox (rowsB (rk (words L key) (rnd L - 0) (decTo (words L key) (rnd L) b 0)))) := hid (by show each _ (rowsB (if rnd L - 0 < rnd L then _ else _)) = _; rw [if_neg (by omega)])
   go_wp2_with (first
    | (with_reducible refine wpl_store rfl 103 _ _ rfl _ _ rfl rfl 103 _ hS3'.blk (i16' _) (by simp [row_size]) (one_b8 _ _) ?_)
    | (with_reducible refine wpl_load rfl 103 _ rfl _ rfl 103 _ hS3.blk 16 5 Tryz.underlying103 (i16' _) ?_))
   refine (rowsB_any _ _).mono ?_
   rintro e w6 ⟨rfl, hB6⟩
   have hS6 := hS3.below hB6
   clear hS3 hS3' hB6
   go_wp2_with fail
   refine (eachUnbox _ _ (rowsB_by Hrb.out)).mono ?_
   rintro e w7 ⟨rfl, hB7⟩
   have hS7 := hS6.below hB7
   clear hS6 hB7
   go_wp2_with (with_reducible refine wpl_store rfl 103 _ _ rfl _ _ rfl rfl 103 _ hS7.blk (i16' _) (by simp [row_size]) (one_b8 _ _) ?_)
   go_round
   case rel => exact ⟨0 + 1, by omega, val_int (by omega), by rw [He.out]; exact hS7.put _⟩
   case measure => simp [intOf]; omega
  have Hkn : Hid (j = rnd L) := hid (by omega)
  have Hby := hid (HE.out j (by omega))
  go_wp2_with (with_reducible refine wpl_load rfl 103 _ rfl _ rfl 103 _ hS.blk 16 5 Tryz.underlying103 (i16' _) ?_)
  refine (rk' _ _ (wsz L) (wsz L) 0 0 rfl (words L key) _ Hby.out Hw.out (by omega) (by rw [Hn.out]; omega) hS.reads).mono ?_
  rintro e w3 ⟨rfl, hB3⟩
  have hS3 := hS.below hB3
  clear hS hB3
  go_wp2_with (with_reducible refine wpl_store rfl 103 _ _ rfl _ _ rfl rfl 103 _ hS3.res (i16' _) (by simp [row_size]) (one_b8 _ _) ?_)
  exact ret_row_tmp Tryz.results74 rfl (w.heap.size + 1) rfl _ rfl 103 16 _ (hS3.res.setRow _) 5 Tryz.underlying103 i16 ⟨by rw [Hkn.out]; rfl, below_setRow' hS3.bel (by omega) _⟩
end Go.Proofs.YtlmnoapoofmmnaaGreatDoor.Aes
