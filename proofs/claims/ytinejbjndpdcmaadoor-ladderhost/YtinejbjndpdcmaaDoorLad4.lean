/-
 ladder: what New, Skip and Full return and leave.
-/
import Derived.Test.YtinejbjndpdcmaaDoorLad3
namespace Go.Proofs.YtinejbjndpdcmaaDoor.Lad
open Go.ChangeShapes Go.WideShapes Go.ChangeAt Go.RowKit Mem Dk
open Des (exec_loadR)
def Term (w : World) (g : Nat) (k n : Nat → Nat) (t : Nat) : Prop := LadAt w g n (t + 1) (fl t) (kf k n t)
theorem Term.sv {w w' : World} {X : Nat → Prop} {g t : Nat} {k n : Nat → Nat} (h : Term w g k n t) (hs : Sv X w w') (hX : ¬ X g) : Term w' g k n t := hs.blk (LadAt.blk h) hX
theorem Term.lt {w : World} {g t : Nat} {k n : Nat → Nat} (h : Term w g k n t) : g < w.heap.size := (LadAt.blk h).lt
theorem take_term (k n : Nat → Nat) (hk : ∀ i, i < 16 → k i < 256) (hn : By10 n) (t : Nat) (ht : t + 1 < 1023) (g : Nat) (w : World) (hL : Term w g k n t) (hT : Tab w) (hg2 : g ≠ 2) :
  Calls Tryd.prog 12 #[.pointer (some ⟨g, 0, none⟩)] w fun e w' => e = .returned (.tuple #[.agg (row 16 (b8 (kD k n (t + 1)))), .agg (row 10 (b8 (atF n (t + 1)))), .nilIface]) ∧ Term w' g k n (t + 1) ∧ Sv (· = g) w w' :=
 take_c k n hk hn t (t + 1) rfl ht g w hL hT hg2
theorem at_at (n : Nat → Nat) (a c : Nat) : atF (atF n a) c = atF n c := by
 funext i
 unfold atF
 by_cases h7 : i = 7
 ·subst h7; simp; omega
 by_cases h8 : i = 8
 ·subst h8; simp
 by_cases h9 : i = 9
 ·subst h9; simp
 simp [h7, h8, h9]
theorem xF_at (n : Nat → Nat) (a : Nat) : xF (atF n a) = xF n := by funext c i; unfold xF; rw [at_at]
theorem kD_at (k n : Nat → Nat) (a c : Nat) : kD k (atF n a) c = kD k n c := by unfold kD; rw [xF_at]
theorem regs_zero (k n : Nat → Nat) : (∀ i, i < 21 → flF (fun _ => false) 21 i = fl 0 i) ∧ ∀ i, i < 21 → flK k n 0 (fun _ _ => 0) 21 i = kf k n 0 i := by
 have h0 : ∀ i, fl 0 i = true := fun i => by simp [fl]
 have hr : ∀ i, rc 0 i = 0 + 2 ^ i := fun i => by simp [rc]
 refine ⟨fun i hi => ?_, fun i hi => ?_⟩
 ·rw [h0]; unfold flF; rw [if_pos hi]
 unfold flK kf
 rw [if_pos hi, if_pos (h0 i), hr, show 0 ||| 2 ^ i = 0 + 2 ^ i by simp]
 unfold kD
 rw [dkey_bit (c := 0) (i := i) (by omega) (by simp), dkey_zero]
set_option maxRecDepth 100000 in
set_option maxHeartbeats 2000000 in
theorem new_any (k n : Nat → Nat) (hk : ∀ i, i < 16 → k i < 256) (hn : By10 n) (w : World) :
  Calls Tryd.prog 10 #[.agg (row 16 (b8 k)), .agg (row 10 (b8 n))] w fun e w' => ∃ g, w.heap.size ≤ g ∧ e = .returned (.pointer (some ⟨g, 0, none⟩)) ∧ Term w' g k (atF n 0) 0 ∧ Below w.heap.size w w' := by
 have Hn := hid hn
 have Hk := hid hk
 have hb1 : Blk ((w.alloc (.cells (row 16 (b8 k)) 27)).alloc (.cells (row 10 (b8 n)) 28)) w.heap.size 27 (row 16 (b8 k)) := (Blk.fresh _ _ _).alloc _
 have hb2 : Blk ((w.alloc (.cells (row 16 (b8 k)) 27)).alloc (.cells (row 10 (b8 n)) 28)) (w.heap.size + 1) 28 (row 10 (b8 n)) := by simpa using Blk.fresh (w.alloc (.cells (row 16 (b8 k)) 27)) 28 (row 10 (b8 n))
 have hB : Below w.heap.size w ((w.alloc (.cells (row 16 (b8 k)) 27)).alloc (.cells (row 10 (b8 n)) 28)) := ((Below.refl _ _).alloc (Nat.le_refl _) _).alloc (by simp) _
 clear hn hk
 go_enter Tryd.func10, Tryd.ntmps10
 go_wp2_with (first
  | (with_reducible refine wpl_load rfl 28 _ rfl _ rfl 28 _ hb2 10 5 Tryd.underlying28 (i10' _) ?_)
  | (go_at_call 14; refine (at_any n Hn.out 0 (by omega) _).mono ?_; rintro e w3 ⟨rfl, hB3⟩; have hb4 := (hb1.below hB3 hb1.lt).alloc (.cells (row 368 (lcell (atF n 0) 1 (fun _ => false) fun _ _ => 0)) 52); have hBe := hid (hB.trans (hB3.mono hB.size)); have hl3 := hid (Nat.lt_of_lt_of_le hb2.lt hB3.size); clear hb1 hb2 hB hB3; go_simp)
  | (with_reducible refine wpl_val rfl _ (exec_build2' 52 _ _ rfl (.agg (row 10 (b8 (atF n 0)))) (.int .i64 1) rfl rfl _ (builtLad _)) ?_)
  | (with_reducible refine wpl_load rfl 27 _ rfl _ rfl 27 _ hb4 16 5 Tryd.underlying27 (i16' _) ?_))
 have hL4 : LadAt (w3.alloc (.cells (row 368 (lcell (atF n 0) 1 (fun _ => false) fun _ _ => 0)) 52)) w3.heap.size (atF n 0) 1 (fun _ => false) fun _ _ => 0 := Blk.fresh _ _ _
 refine (fill_any 21 (Nat.le_refl _) k Hk.out 0 (by omega) (atF n 0) (atF_lt Hn.out 0) 1 _ _ w3.heap.size _ hL4).mono ?_
 rintro e w5 ⟨rfl, hL5, hS5⟩
 have hL6 : Term w5 w3.heap.size k (atF n 0) 0 := hL5.ext (regs_zero k (atF n 0)).1 (fun i hi j _ => congrFun ((regs_zero k (atF n 0)).2 i hi) j)
 have hB4 := hBe.out.alloc (o := .cells (row 368 (lcell (atF n 0) 1 (fun _ => false) fun _ _ => 0)) 52) hBe.out.size
 have hB5 := hS5.below hB4 (fun q hq => by rw [hq]; exact hBe.out.size) hB4.size
 have hsz := hBe.out.size
 clear hL4 hL5 hS5 hB4 hb4
 go_simp
 go_wp2_with fail
 go_ret
 exact ⟨_, hsz, rfl, hL6, hB5⟩
theorem size_up (w : World) (o : Obj) : (w.alloc o).heap.size = w.heap.size + 1 := by simp
theorem skip_mem {k n : Nat → Nat} {t g : Nat} {w w3 : World} (hL : Term w3 g k n (t + 1)) (hS : Sv (· = g) w w3) :
  Blk ((w3.alloc (.cells (row 16 (b8 fun _ => 0)) 27)).alloc (.cells (row 10 (b8 fun _ => 0)) 28)) w3.heap.size 27 (row 16 (b8 fun _ => 0)) ∧ Blk (((w3.alloc (.cells (row 16 (b8 fun _ => 0)) 27)).alloc (.cells (row 10 (b8 fun _ => 0)) 28)).setRow w3.heap.size (row 16 (b8 (kD k n (t + 1))))) (w3.heap.size + 1) 28 (row 10 (b8 fun _ => 0)) ∧
   Term ((((w3.alloc (.cells (row 16 (b8 fun _ => 0)) 27)).alloc (.cells (row 10 (b8 fun _ => 0)) 28)).setRow w3.heap.size (row 16 (b8 (kD k n (t + 1))))).setRow (w3.heap.size + 1) (row 10 (b8 (atF n (t + 1))))) g k n (t + 1) ∧ Sv (· = g) w ((((w3.alloc (.cells (row 16 (b8 fun _ => 0)) 27)).alloc (.cells (row 10 (b8 fun _ => 0)) 28)).setRow w3.heap.size (row 16 (b8 (kD k n (t + 1))))).setRow (w3.heap.size + 1) (row 10 (b8 (atF n (t + 1))))) := by
 have hlt := hL.lt
 have hsz := hS.size
 have h6 : Blk ((w3.alloc (.cells (row 16 (b8 fun _ => 0)) 27)).alloc (.cells (row 10 (b8 fun _ => 0)) 28)) (w3.heap.size + 1) 28 (row 10 (b8 fun _ => 0)) := by simpa using Blk.fresh (w3.alloc (.cells (row 16 (b8 fun _ => 0)) 27)) 28 (row 10 (b8 fun _ => 0))
 have hLa : Blk ((w3.alloc (.cells (row 16 (b8 fun _ => 0)) 27)).alloc (.cells (row 10 (b8 fun _ => 0)) 28)) g 52 _ := (Blk.alloc (LadAt.blk hL) _).alloc _
 refine ⟨(Blk.fresh _ _ _).alloc _, h6.otherRow _ _ (by omega), (hLa.otherRow _ _ (by omega)).otherRow _ _ (by omega), ?_⟩
 exact (((hS.alloc _).alloc _).setRow _ (Or.inr hsz) _).setRow _ (Or.inr (by omega)) _
set_option maxRecDepth 100000 in
set_option maxHeartbeats 2000000 in
theorem skip_any (k n : Nat → Nat) (hk : ∀ i, i < 16 → k i < 256) (hn : By10 n) (t m : Nat) (hm : m ≤ 1000) (ht : t + m < 1022) (z : Int) (hz : z = m ∨ (z ≤ 0 ∧ m = 0)) (g : Nat) (w : World) (hL : Term w g k n t) (hT : Tab w) (hg2 : g ≠ 2) :
  Calls Tryd.prog 11 #[.pointer (some ⟨g, 0, none⟩), .int .i64 z] w fun e w' => e = .returned .nilIface ∧ Term w' g k n (t + m) ∧ Sv (· = g) w w' := by
 have Hn := hid hn
 have Hk := hid hk
 have HT := hid hT
 clear hn hk hT
 go_enter Tryd.func11, Tryd.ntmps11
 go_wp2_with fail
 go_loopw [10] (fun i wr => ∃ j : Nat, j ≤ m ∧ i = .int .i64 j ∧ Term wr g k n (t + j) ∧ Sv (· = g) w wr) (fun i _ => m - (intOf i).toNat)
 case atStart => exact ⟨0, by omega, rfl, hL, Sv.refl _ _⟩
 case round =>
  obtain ⟨j, hj, rfl, hL', hS⟩ := hrel
  clear hL
  by_cases hlt : j < m
  ·have hlz : (j : Int) < z := by omega
   have hT' := HT.out.sv hS (fun h => hg2 h.symm)
   have hgl := hL'.lt
   go_wp2_with (first
    | (go_at_call 12; refine (take_term k n Hk.out Hn.out (t + j) (by omega) g _ hL' hT' hg2).mono ?_; rintro e w3 ⟨rfl, hL3, hS3⟩; obtain ⟨h5, h6, hLe, hSe⟩ := skip_mem (t := t + j) hL3 (hS.trans hS3); have hsz3 := size_up w3 (.cells (row 16 (b8 fun _ => 0)) 27); clear hS hL' hT' hL3 hS3; go_simp)
    | (with_reducible refine wpl_alloc rfl 27 rfl _ z16 ?_)
    | (with_reducible refine wpl_alloc rfl 28 rfl _ z10 ?_; rw [hsz3])
    | (with_reducible refine wpl_store rfl 27 _ _ rfl _ _ rfl rfl 27 _ h5 (i16' _) (by simp [row_size]) (one_b8 _ _) ?_)
    | (with_reducible refine wpl_store rfl 28 _ _ rfl _ _ rfl rfl 28 _ h6 (i10' _) (by simp [row_size]) (one_b8 _ _) ?_))
   exact ⟨⟨j + 1, by omega, val_int (by omega), hLe, hSe⟩, by simp [intOf]; omega⟩
  have hlz : ¬ (j : Int) < z := by omega
  obtain rfl : j = m := by omega
  go_wp2_with fail
  go_ret
  exact ⟨rfl, hL', hS⟩
section
variable {P : Program} {o : Oper} {a : Act} {w : World} {Q : Exit → Act → World → Prop} {ops : Array Oper} {rest : List Oper}
theorem row_extract {n off m : Nat} {F : Nat → Value} (h : off + m ≤ n) : (row n F).extract off (off + m) = row m fun j => F (off + j) := by
 refine row_of ?_ fun i hi => ?_
 ·rw [Array.size_extract, row_size]; omega
 rw [Array.getElem?_extract, row_size, if_pos (by omega), row_get _ _ _ (by omega)]
theorem wpl_idxA (hgd : o.guard = none) (ty : TypeId) (x ix : Operand) (ho : o.op = .index ty x ix) (M : Nat) (F : Nat → Value) (hx : a.eval x = .agg (row M F)) (kd : IntKind) (z : Int) (hix : a.eval ix = .int kd z) (k : Nat) (hz : z = (k : Int))
  (n : Nat) (e : TypeId) (hu : P.underlying ty = some (.array n e)) (hk : k < n) (he : ∃ fs, P.underlying e = some (.struct fs)) (sz : Nat) (hs : (P.info? e).map (·.size) = some sz) (hM : k * sz + sz ≤ M)
  (h : wpList P ops Q rest (a.put o.dst (.agg (row sz fun j => F (k * sz + j)))) w) : wpList P ops Q (o :: rest) a w := by
 subst hz
 obtain ⟨fs, he⟩ := he
 refine wpList_plain hgd fun _ hK => ?_
 have hr : (Instr.index ty (.agg (row M F)) (.int kd (k : Int))).run P w = .ok (.agg (row sz fun j => F (k * sz + j))) w := by
  simp [Instr.index, asIntOf, Sem.run_bind, run_underlying hu, run_size hs, show ¬ n ≤ k by omega, part, isAgg, run_underlying he, row_extract hM]
 unfold Oper.wp execOp
 simp only [ho, hx, hix, hr, Sem.run_bind, Sem.run_pure, Result.andThen_ok]
 exact hK _ _ h
theorem exec_ldBl (ty : TypeId) (x : Operand) (ho : o.op = .load ty x) (q : Addr) (hx : a.eval x = .pointer (some q)) (hu : P.underlying ty = some .bool) (b : Bool) (hv : w.cell? q = some (.bool b)) : (execOp a.eval o).run P w = .ok (.value (.bool b)) w := by
 have h : (Instr.loadAt ty (.pointer (some q))).run P w = .ok (.bool b) w := by
  simp [Instr.loadAt, Instr.sureAddr, loadVar, isAgg, run_underlying hu, hv]
 unfold execOp
 simp only [ho, hx, h, Sem.run_bind, Sem.run_pure, Result.andThen_ok]
end
theorem zreg : (Tryd.prog.info? 49).map (·.zero) = some (some (.agg (row 17 (gcell false fun _ => 0)))) := by kernel_rfl
theorem reg_row (f : Nat → Bool) (k : Nat → Nat → Nat) (m : Nat) : row 17 (fun j => rcell f k (m * 17 + j)) = row 17 (gcell (f m) (k m)) := row_ext fun j hj => by
 unfold rcell
 rw [show (m * 17 + j) / 17 = m by omega, show (m * 17 + j) % 17 = j by omega]
theorem reg_one (f : Nat → Bool) (k : Nat → Nat → Nat) (m : Nat) : (row 17 fun j => rcell f k (m * 17 + j)).all (·.oneCell') = true := row_one 17 _ fun _ _ => gcell_one _ _ _
set_option maxRecDepth 100000 in
set_option maxHeartbeats 2000000 in
theorem full_any (n : Nat → Nat) (c : Nat) (f : Nat → Bool) (k : Nat → Nat → Nat) (g : Nat) (w : World) (hL : LadAt w g n c f k) :
  Calls Tryd.prog 16 #[.pointer (some ⟨g, 0, none⟩)] w fun e w' => e = .returned (.int .i64 (many f 21 : Nat)) ∧ Below w.heap.size w w' := by
 have hregs := fun i hi => hL.regs i hi
 have hie := iareg
 have hu : ∃ l e, Tryd.prog.underlying 50 = some (.array l e) := ⟨_, _, Tryd.underlying50⟩
 go_enter Tryd.func16, Tryd.ntmps16
 go_wp2_with (first
  | (with_reducible refine wpl_val rfl _ (exec_loadV 50 _ rfl ⟨g, 11, none⟩ rfl 357 (rcell f k) hregs hie hu) ?_))
 clear hregs hie hu hL
 go_loopw [3, 10] (fun x i wr => ∃ m : Nat, m ≤ 21 ∧ x = .int .i64 (many f m : Nat) ∧ i = .int .i64 m ∧ Below w.heap.size w wr) (fun _ i _ => 21 - (intOf i).toNat)
 case atStart => exact ⟨0, by omega, rfl, rfl, Below.refl _ _⟩
 case round =>
  obtain ⟨m, hm, rfl, rfl, hB⟩ := hrel
  have hmm := many_le f m
  by_cases hlt : m < 21
  ·have hus : ∃ fs, Tryd.prog.underlying 49 = some (.struct fs) := ⟨_, Tryd.underlying49⟩
   have h5 : Blk (wr.alloc (.cells (row 17 (gcell false fun _ => 0)) 49)) wr.heap.size 49 (row 17 (gcell false fun _ => 0)) := Blk.fresh _ _ _
   have h6 : ((wr.alloc (.cells (row 17 (gcell false fun _ => 0)) 49)).setRow wr.heap.size (row 17 fun j => rcell f k (m * 17 + j))).cell? ⟨wr.heap.size, 0, none⟩ = some (.bool (f m)) := by
    rw [(h5.setRow _).cell, row_get _ _ _ (by omega)]
    unfold rcell gcell
    rw [show (m * 17 + 0) / 17 = m by omega, if_pos (by omega)]
   have hBe := hid (below_setRow' (hB.alloc hB.size (.cells (row 17 (gcell false fun _ => 0)) 49)) hB.size (row 17 fun j => rcell f k (m * 17 + j)))
   have hms : Hid (many f (m + 1) = many f m + if f m then 1 else 0) := hid rfl
   clear hB
   generalize many f m = y at *
   cases hfm : f m
   ·rw [hfm] at h6
    have hms' : many f (m + 1) = y := by rw [hms.out, hfm]; rfl
    go_wp2_with (first
     | (with_reducible refine wpl_idxA rfl 50 _ _ rfl 357 (rcell f k) rfl .i64 _ rfl m rfl 21 49 Tryd.underlying50 hlt hus 17 ireg (by omega) ?_)
     | (with_reducible refine wpl_alloc rfl 49 rfl _ zreg ?_)
     | (with_reducible refine wpl_store rfl 49 _ _ rfl _ _ rfl rfl 49 _ h5 (by rw [row_size]; exact ireg) (by simp [row_size]) (reg_one f k m) ?_)
     | (with_reducible refine wpl_val rfl _ (exec_ldBl 4 _ rfl ⟨wr.heap.size, 0, none⟩ rfl Tryd.underlying4 false h6) ?_))
    exact ⟨⟨m + 1, by omega, by rw [hms'], val_int (by omega), hBe.out⟩, by simp [intOf]; omega⟩
   rw [hfm] at h6
   have hms' : many f (m + 1) = y + 1 := by rw [hms.out, hfm]; rfl
   go_wp2_with (first
    | (with_reducible refine wpl_idxA rfl 50 _ _ rfl 357 (rcell f k) rfl .i64 _ rfl m rfl 21 49 Tryd.underlying50 hlt hus 17 ireg (by omega) ?_)
    | (with_reducible refine wpl_alloc rfl 49 rfl _ zreg ?_)
    | (with_reducible refine wpl_store rfl 49 _ _ rfl _ _ rfl rfl 49 _ h5 (by rw [row_size]; exact ireg) (by simp [row_size]) (reg_one f k m) ?_)
    | (with_reducible refine wpl_val rfl _ (exec_ldBl 4 _ rfl ⟨wr.heap.size, 0, none⟩ rfl Tryd.underlying4 true h6) ?_))
   exact ⟨⟨m + 1, by omega, by rw [hms']; exact val_int (by omega), val_int (by omega), hBe.out⟩, by simp [intOf]; omega⟩
  obtain rfl : m = 21 := by omega
  go_wp2_with fail
  go_ret
  exact ⟨rfl, hB⟩
end Go.Proofs.YtinejbjndpdcmaaDoor.Lad
