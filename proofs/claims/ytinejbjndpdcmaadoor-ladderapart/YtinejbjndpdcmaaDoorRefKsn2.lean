/-
 What the document's own At of layer 12 returns.
-/
import Derived.Test.YtinejbjndpdcmaaDoorRefKsn
set_option linter.unusedSimpArgs false
set_option linter.unusedVariables false
namespace Go.Proofs.YtinejbjndpdcmaaDoor.Lad
open Go.ChangeShapes Go.WideShapes Go.ChangeAt Go.RowKit Mem Dk
open Des (bitsF iI infoI)
theorem lat_put {cur : Array Value} {n : Nat → Nat} {c j : Nat} (hj : j < 21) (h : ∀ t, t < 80 → cur[t]? = some (.int .i64 ((latF n c j t : Nat) : Int))) (x : Int) (hx : x = ((c / 2 ^ j % 2 : Nat) : Int)) :
  ∀ t, t < 80 → (cur.setIfInBounds (79 - j) (.int .i64 x))[t]? = some (.int .i64 ((latF n c (j + 1) t : Nat) : Int)) := fun t ht => by
 have h0 := h (79 - j) (by omega)
 have hsz : 79 - j < cur.size := by
  rcases Nat.lt_or_ge (79 - j) cur.size with h1 | h1
  ·exact h1
  rw [Array.getElem?_eq_none h1] at h0; cases h0
 rw [← lat_step n c j t hj, Array.getElem?_setIfInBounds]
 unfold upd
 by_cases e : t = 79 - j
 ·subst e; rw [if_pos rfl, if_pos hsz, if_pos rfl, hx]
 rw [if_neg (fun h => e h.symm), if_neg e, h t ht]
theorem Sv.cell {X : Nat → Prop} {w w' : World} {a : Addr} {v : Value} (h : Sv X w w') (hc : w.cell? a = some v) (hX : ¬ X a.block) : w'.cell? a = some v := by
 rw [← hc]
 unfold World.cell?
 rw [h.block _ (World.block_lt_of_cell? w a hc) hX]
set_option maxRecDepth 100000 in
set_option maxHeartbeats 4000000 in
theorem rat_any (n : Nat → Nat) (hn : By10 n) (z : Int) (w : World) :
  Calls Tryd.prog 15 #[.agg (row 10 (b8 n)), .int .i64 z] w fun e w' => e = .returned (.agg (row 10 (b8 (atF n (z % 2097152).toNat)))) ∧ Below w.heap.size w w' := by
 have Hn := hid hn
 have hshr := hid (shr_bit z)
 have hby := hid (fun i hi => lat_bytes n hn (z % 2097152).toNat i hi)
 have hll := hid (latF_lt n (z % 2097152).toNat 21)
 have hl0 : Hid (∀ t, latF n (z % 2097152).toNat 0 t = if 79 < t then (z % 2097152).toNat / 2 ^ (79 - t) % 2 else bitsF n t) := hid fun t => rfl
 generalize (z % 2097152).toNat = c at *
 have hb1 : Blk ((w.alloc (.cells (row 10 (b8 n)) 28)).alloc (.cells (row 10 (b8 fun _ => 0)) 28)) w.heap.size 28 (row 10 (b8 n)) := (Blk.fresh _ _ _).alloc _
 have hb2 : Blk ((w.alloc (.cells (row 10 (b8 n)) 28)).alloc (.cells (row 10 (b8 fun _ => 0)) 28)) (w.heap.size + 1) 28 (row 10 (b8 fun _ => 0)) := by simpa using Blk.fresh (w.alloc (.cells (row 10 (b8 n)) 28)) 28 (row 10 (b8 fun _ => 0))
 have hB : Below w.heap.size w ((w.alloc (.cells (row 10 (b8 n)) 28)).alloc (.cells (row 10 (b8 fun _ => 0)) 28)) := ((Below.refl _ _).alloc (Nat.le_refl _) _).alloc (by simp) _
 clear hn
 go_enter Tryd.func15, Tryd.ntmps15
 go_wp2_with (first
  | (with_reducible refine wpl_alloc rfl 28 rfl _ z10 ?_)
  | (go_at_call 25; refine (bits_own _ 10 10 n (by omega) (by omega) Hn.out _ (row_reads hb1)).mono ?_; rintro e w2 ⟨v, rfl, hv, hBn⟩; go_simp))
 have hv8 : OwnV w2 _ 3 v 80 (iv .i64 (bitsF n)) := hv
 rcases hv8.form with ⟨_, h0⟩ | ⟨g, cap, cur, rfl, hbg, hglt, hcap, hG, hcur⟩
 ·omega
 replace hb2 := hb2.below hBn hb2.lt
 have hsz := hB.size
 replace hB := hB.trans (hBn.mono hB.size)
 have hgw : w.heap.size ≤ g := Nat.le_trans hsz hbg
 have hgb : w.heap.size + 1 < g := by have := hb1.lt; simp at hbg; omega
 clear hBn hv hv8 hb1 hbg hsz
 have hcur0 : ∀ t, t < 80 → cur[t]? = some (.int .i64 ((latF n c 0 t : Nat) : Int)) := fun t ht => by
  rw [hcur t ht, hl0.out t, if_neg (by omega)]; rfl
 clear hcur hl0
 go_wp2_with fail
 go_loopw [6] (fun i wr => ∃ j : Nat, j ≤ 21 ∧ i = .int .i64 j ∧ (∃ cs, Blk wr g 3 cs ∧ Hid (∀ t, t < 80 → cs[t]? = some (.int .i64 ((latF n c j t : Nat) : Int)))) ∧ Sv (· = g) w2 wr) (fun i _ => 21 - (intOf i).toNat)
 case atStart => exact ⟨0, by omega, rfl, ⟨cur, hG, hid hcur0⟩, Sv.refl _ _⟩
 case round =>
  obtain ⟨j, hj, rfl, ⟨cs, hC, Hcs⟩, hS⟩ := hrel
  clear hG hcur0
  by_cases hlt : j < 21
  ·have hbit := hshr.out j hlt
   have hput := hid (lat_put hlt Hcs.out _ hbit)
   have hcell := (hC.cell (79 - j)).trans (Hcs.out (79 - j) (by omega))
   have hfree := hC.free (79 - j)
   have hC2 := hC.setCell (79 - j) (.int .i64 (bits .and .i64 (z / 2 ^ j) 1))
   have hS2 := hS.setCell g (79 - j) (Or.inl rfl) (.int .i64 (bits .and .i64 (z / 2 ^ j) 1))
   clear hbit hC hS
   have hwj : IntKind.u64.wrap (j : Int) = (j : Int) := Des.u64_wrap j (by omega) _ rfl
   go_wp2_with (first
    | (with_reducible refine wpl_slb rfl 59 _ _ rfl g 80 cap rfl .i64 _ rfl (79 - j) (by omega) 3 Tryd.underlying59 (by omega) iI ?_)
    | (with_reducible refine wpl_st rfl 3 _ _ rfl _ rfl .i64 _ rfl iI _ hcell hfree ?_))
   exact ⟨⟨j + 1, by omega, val_int (by omega), ⟨_, hC2, hput⟩, hS2⟩, by simp [intOf]; omega⟩
  obtain rfl : j = 21 := by omega
  replace hb2 := hS.blk hb2 (by omega)
  replace hB := hS.below hB (fun q hq => by rw [hq]; exact hgw) hB.size
  have hL : Lst wr 3 (some ⟨g, 0, none⟩) 80 (iv .i64 (latF n c 21)) := ⟨g, 0, cs, rfl, hC, fun i hi => by rw [Nat.zero_add]; exact Hcs.out i hi⟩
  clear hS hC Hcs hshr
  go_wp2_with (first
   | (with_reducible refine wpl_alloc rfl 28 rfl _ z10 ?_)
   | (go_at_call 26; refine (bytes_own _ _ _ hll.out _ hL).mono ?_; rintro e w3 ⟨v, rfl, hv, hBn⟩; go_simp))
  rcases hv.form with ⟨_, h0⟩ | ⟨g2, cap2, cs2, rfl, hbg2, hglt2, hcap2, hG2, hcs2⟩
  ·omega
  have hsz := hB.size
  have hb2l := hb2.lt
  replace hb2 := hb2.below hBn hb2.lt
  replace hB := hB.trans (hBn.mono hB.size)
  have hX := hid (fun i (hi : i < 10) => ((hG2.alloc (.cells (row 10 (b8 fun _ => 0)) 28)).cell i).trans ((hcs2 i hi).trans (by rw [show iv IntKind.u8 (fun i => kb2 (latF n c 21) i 8) i = .int .u8 ((kb2 (latF n c 21) i 8 : Nat) : Int) from rfl, hby.out i hi])))
  have hb8 : Blk (w3.alloc (.cells (row 10 (b8 fun _ => 0)) 28)) w3.heap.size 28 (row 10 (b8 fun _ => 0)) := Blk.fresh _ _ _
  replace hb2 := hb2.alloc (.cells (row 10 (b8 fun _ => 0)) 28)
  replace hB := hB.alloc hB.size (.cells (row 10 (b8 fun _ => 0)) 28)
  have hw3 : w.heap.size + 1 < w3.heap.size := Nat.lt_of_lt_of_le hb2l hBn.size
  clear hv hBn hbg2 hcap2 hcs2 hL hsz hb2l
  generalize w3.alloc (.cells (row 10 (b8 fun _ => 0)) 28) = w4 at *
  generalize w3.heap.size = r8 at *
  have h20 : g2 ≠ r8 := by omega
  clear hG2 hglt2
  have hb80 : Blk w4 r8 28 (row 10 (b8 fun t => if t < 0 then atF n c t else 0)) := hb8
  clear hb8
  go_loopw [9] (fun i wr => ∃ j : Nat, j ≤ 10 ∧ i = .int .i64 j ∧ Blk wr r8 28 (row 10 (b8 fun t => if t < j then atF n c t else 0)) ∧ Sv (· = r8) w4 wr) (fun i _ => 10 - (intOf i).toNat)
  case atStart => exact ⟨0, by omega, rfl, hb80, Sv.refl _ _⟩
  case round =>
   clear hb80
   rename World => wy
   obtain ⟨j, hj, rfl, hC, hS⟩ := hrel
   by_cases hlt2 : j < 10
   ·have hc1 := hS.cell (hX.out j hlt2) h20
    have hd := hC.val j hlt2
    have hf := hC.free j
    have hC2 := hC.setCell j (.int .u8 ((atF n c j : Nat) : Int))
    have hS2 := hS.setCell r8 j (Or.inl rfl) (.int .u8 ((atF n c j : Nat) : Int))
    rw [row_set, upd_b8] at hC2
    have hrow : row 10 (b8 (upd (fun t => if t < j then atF n c t else 0) j (atF n c j))) = row 10 (b8 fun t => if t < j + 1 then atF n c t else 0) := row_b8_ext fun t ht => by
     unfold upd
     by_cases e : t = j
     ·subst e; rw [if_pos rfl, if_pos (by omega)]
     rw [if_neg e]
     show (if t < j then atF n c t else 0) = _
     by_cases e2 : t < j
     ·rw [if_pos e2, if_pos (by omega)]
     rw [if_neg e2, if_neg (by omega)]
    rw [hrow] at hC2
    clear hrow hC hS
    go_wp2_with (first
     | (with_reducible refine wpl_slb rfl 58 _ _ rfl g2 10 cap2 rfl .i64 _ rfl j rfl 5 Tryd.underlying58 hlt2 i1 ?_)
     | (with_reducible refine wpl_ld rfl 5 _ rfl _ rfl .u8 Tryd.underlying5 _ hc1 ?_)
     | (with_reducible refine wpl_at rfl 28 _ _ rfl _ rfl .i64 _ rfl j rfl 10 5 Tryd.underlying28 hlt2 i1 ?_)
     | (with_reducible refine wpl_st rfl 5 _ _ rfl _ rfl .u8 _ rfl i1 _ hd hf ?_))
    exact ⟨⟨j + 1, by omega, val_int (by omega), hC2, hS2⟩, by simp [intOf]; omega⟩
   obtain rfl : j = 10 := by omega
   have hCe : Blk wy r8 28 (row 10 (b8 (atF n c))) := by
    rw [show row 10 (b8 (atF n c)) = row 10 (b8 fun t => if t < 10 then atF n c t else 0) from row_b8_ext fun t ht => by rw [if_pos ht]]; exact hC
   replace hb2 := hS.blk hb2 (by omega)
   have HB := hid (hS.below hB (fun q hq => by omega) hB.size)
   clear hC hS hB
   go_wp2_with (first
    | (with_reducible refine wpl_load rfl 28 _ rfl _ rfl 28 _ hCe 10 5 Tryd.underlying28 (i10' _) ?_)
    | (with_reducible refine wpl_store rfl 28 _ _ rfl _ _ rfl rfl 28 _ hb2 (i10' _) (by simp [row_size]) (one_b8 _ _) ?_))
   exact ret_row Tryd.results15 rfl (w.heap.size + 1) rfl 28 10 _ (hb2.setRow _) 5 Tryd.underlying28 i10 ⟨rfl, below_setRow' HB.out (by omega) _⟩
end Go.Proofs.YtinejbjndpdcmaaDoor.Lad
