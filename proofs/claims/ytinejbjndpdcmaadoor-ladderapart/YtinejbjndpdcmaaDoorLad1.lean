/-
 ladder: the library's counting of zeros below the lowest bit, and what numberAt and Next return.
-/
import Derived.Test.YtinejbjndpdcmaaDoorLadMem
import Derived.Lib.LaidTab
namespace Go.Proofs.YtinejbjndpdcmaaDoor.Lad
open Go.ChangeShapes Go.WideShapes Go.ChangeAt Go.RowKit Mem Dk
open Des (exec_loadR)
structure Sv (X : Nat → Prop) (w w' : World) : Prop where
 os : w'.os = w.os
 tape : w'.tape = w.tape
 output : w'.output = w.output
 size : w.heap.size ≤ w'.heap.size
 block : ∀ k, k < w.heap.size → ¬ X k → w'.heap[k]? = w.heap[k]?
section
variable {X Y : Nat → Prop} {w w' w'' : World}
theorem Sv.refl (X : Nat → Prop) (w : World) : Sv X w w := ⟨rfl, rfl, rfl, Nat.le_refl _, fun _ _ _ => rfl⟩
theorem Sv.trans (h : Sv X w w') (h' : Sv X w' w'') : Sv X w w'' := ⟨h'.os.trans h.os, h'.tape.trans h.tape, h'.output.trans h.output, Nat.le_trans h.size h'.size, fun k hk hx => (h'.block k (Nat.lt_of_lt_of_le hk h.size) hx).trans (h.block k hk hx)⟩
theorem Sv.call (h : Sv X w w') (h' : Below w'.heap.size w' w'') : Sv X w w'' := h.trans ⟨h'.os, h'.tape, h'.output, h'.size, fun k hk _ => h'.block k hk⟩
theorem Sv.callB {B : Nat} (h : Sv X w w') (h' : Below B w' w'') (hB : ∀ k, k < w.heap.size → ¬ X k → k < B) : Sv X w w'' := ⟨h'.os.trans h.os, h'.tape.trans h.tape, h'.output.trans h.output, Nat.le_trans h.size h'.size, fun k hk hx => (h'.block k (hB k hk hx)).trans (h.block k hk hx)⟩
theorem Sv.drew (h : Sv X w w') : Sv X w w'.drew := ⟨h.os, h.tape, h.output, h.size, h.block⟩
theorem Sv.alloc (h : Sv X w w') (o : Obj) : Sv X w (w'.alloc o) := h.call ((Below.refl _ _).alloc (Nat.le_refl _) o)
theorem Sv.setRow (h : Sv X w w') (g : Nat) (hg : X g ∨ w.heap.size ≤ g) (cs : Array Value) : Sv X w (w'.setRow g cs) :=
 ⟨h.os, h.tape, h.output, (by simpa using h.size), fun k hk hx => (setRow_other w' g k cs (fun e => hg.elim (fun hg => hx (e ▸ hg)) (fun hg => by omega))).trans (h.block k hk hx)⟩
theorem Sv.setCell (h : Sv X w w') (g i : Nat) (hg : X g ∨ w.heap.size ≤ g) (v : Value) : Sv X w (w'.setCell ⟨g, i, none⟩ v) :=
 ⟨h.os, h.tape, h.output, (by simpa using h.size), fun k hk hx => (heap_setCell_other w' ⟨g, i, none⟩ k v (fun e => hg.elim (fun hg => hx (e ▸ hg)) (fun hg => by simp at e; omega))).trans (h.block k hk hx)⟩
theorem Sv.blk (h : Sv X w w') {k : Nat} {t : TypeId} {cs : Array Value} (hb : Blk w k t cs) (hk : ¬ X k) : Blk w' k t cs := (h.block k hb.lt hk).trans hb
theorem Sv.sub (h : Sv X w w') (hs : ∀ k, k < w.heap.size → X k → Y k) : Sv Y w w' := ⟨h.os, h.tape, h.output, h.size, fun k hk hy => h.block k hk fun hx => hy (hs k hk hx)⟩
theorem Sv.of (h : Below w.heap.size w w') : Sv X w w' := ⟨h.os, h.tape, h.output, h.size, fun k hk _ => h.block k hk⟩
theorem Sv.below {B : Nat} {w0 : World} (h : Sv X w w') (h0 : Below B w0 w) (hX : ∀ k, X k → B ≤ k) (hB : B ≤ w.heap.size) : Below B w0 w' :=
 ⟨h.os.trans h0.os, h.tape.trans h0.tape, h.output.trans h0.output, Nat.le_trans h0.size h.size, fun k hk => (h.block k (by omega) (fun hx => by have := hX k hx; omega)).trans (h0.block k hk)⟩
end
def t64 : List Int := [0, 1, 56, 2, 57, 49, 28, 3, 61, 58, 42, 50, 38, 29, 17, 4, 62, 47, 59, 36, 45, 43, 51, 22, 53, 39, 33, 30, 24, 18, 12, 5, 63, 55, 48, 27, 60, 41, 37, 16, 46, 35, 44, 21, 52, 32, 23, 11, 54, 26, 40, 15, 34, 20, 31, 10, 25, 14, 19, 9, 13, 8, 7, 6]
def Tab (w : World) : Prop := Lib.TabIs Tryd.prog w "math/bits.deBruijn64tab" .u8 t64
theorem gtab : Tryd.prog.globalNamed "math/bits.deBruijn64tab" = some 2 := by kernel_rfl
theorem Tab.out {w : World} (h : Tab w) : ∃ t fz, w.heap[2]? = some (.cells (t64.map fun z => Value.int .u8 z).toArray t fz) := by
 unfold Tab Lib.TabIs World.var? at h
 rw [gtab] at h
 simp only [Option.bind_some] at h
 generalize hq : w.heap[2]? = q at h
 match q, h with
 | some (.cells cs t fz), h => simp only [Option.some.injEq] at h; subst h; exact ⟨t, fz, rfl⟩
theorem Tab.lt {w : World} (h : Tab w) : 2 < w.heap.size := by
 obtain ⟨t, fz, h⟩ := h.out
 rcases Nat.lt_or_ge 2 w.heap.size with h' | h'
 ·exact h'
 rw [Array.getElem?_eq_none h'] at h; cases h
theorem Tab.of {w w' : World} (h : Tab w) (he : w'.heap[2]? = w.heap[2]?) : Tab w' := by
 unfold Tab Lib.TabIs World.var? at h ⊢
 rw [gtab] at h ⊢
 simp only [Option.bind_some] at h ⊢
 rw [he]; exact h
theorem Tab.below {w w' : World} {B : Nat} (h : Tab w) (hb : Below B w w') (hB : 2 < B) : Tab w' := h.of (hb.block 2 hB)
theorem Tab.sv {w w' : World} {X : Nat → Prop} (h : Tab w) (hs : Sv X w w') (hX : ¬ X 2) : Tab w' := h.of (hs.block 2 h.lt hX)
theorem Tab.cell {w : World} (h : Tab w) (i : Nat) (z : Int) (hz : t64[i]? = some z) : w.cell? ⟨2, i, none⟩ = some (.int .u8 z) := by
 obtain ⟨t, fz, h⟩ := h.out
 simp [World.cell?, h, hz]
theorem bruijn : ∀ p : Fin 64, t64[(2 ^ p.val * 285870213051353865 % 18446744073709551616) / 288230376151711744]? = some (p.val : Int) ∧ (2 ^ p.val * 285870213051353865 % 18446744073709551616) / 288230376151711744 < 64 := by decide +kernel
theorem wrapd (y : Nat) : IntKind.u64.wrap ((y : Int) * 285870213051353865) / 288230376151711744 = (((y * 285870213051353865 % 18446744073709551616) / 288230376151711744 : Nat) : Int) := by
 have : IntKind.u64.wrap ((y : Int) * 285870213051353865) = ((y : Int) * 285870213051353865) % 18446744073709551616 := rfl
 rw [this, Int.natCast_ediv, Int.natCast_emod, Int.natCast_mul]; rfl
theorem wrapn (c : Nat) (h0 : 0 < c) (hc : c < 2097152) : IntKind.u64.wrap (-(c : Int)) = ((18446744073709551616 - c : Nat) : Int) := by
 have : IntKind.u64.wrap (-(c : Int)) = (-(c : Int)) % 18446744073709551616 := rfl
 rw [this]; omega
set_option maxRecDepth 100000 in
theorem tz64w (c m y ix p : Nat) (h00 : ((c : Int) == 0) = false) (e1 : IntKind.u64.wrap (-(c : Int)) = (m : Int)) (e2 : bits .and .u64 (c : Int) (m : Int) = (y : Int))
  (e3 : IntKind.u64.wrap ((y : Int) * 285870213051353865) / 288230376151711744 = (ix : Int)) (hlt : ix < 64) (hp : p < 64) (w : World) (hcell : w.cell? ⟨2, ix, none⟩ = some (.int .u8 (p : Int))) :
  Calls Tryd.prog 31 #[.int .u64 c] w fun e w' => e = .returned (.int .i64 (p : Nat)) ∧ w = w' := by
 go_enter Tryd.func31, Tryd.ntmps31
 go_wp2_with (first
  | (with_reducible refine wpl_at rfl 84 _ _ rfl 2 rfl .u64 _ rfl ix e3 64 5 Tryd.underlying84 hlt i1 ?_)
  | (with_reducible refine wpl_ld rfl 5 _ rfl _ rfl .u8 Tryd.underlying5 _ hcell ?_))
 go_ret
 exact ⟨rfl, rfl⟩
theorem low64 {c p : Nat} (h : LowAt c p) (hc : c < 2097152) : p < 64 := by
 have hp := h.pos
 rcases Nat.lt_or_ge p 64 with h1 | h1
 ·exact h1
 have := Nat.pow_le_pow_right (n := 2) (by omega) h1; omega
theorem tz64 (c p : Nat) (h : LowAt c p) (hc : c < 2097152) (w : World) (hT : Tab w) : Calls Tryd.prog 31 #[.int .u64 c] w fun e w' => e = .returned (.int .i64 (p : Nat)) ∧ w = w' := by
 have hp := h.pos
 have h0 := Nat.two_pow_pos p
 obtain ⟨hz, hlt⟩ := bruijn ⟨p, low64 h hc⟩
 have hneg := h.neg (Nat.lt_trans hc (by decide))
 exact tz64w c (2 ^ 64 - c) (2 ^ p) _ p (by simp; omega) (wrapn c (by omega) hc) (by rw [u64_and_nat _ _ (by omega) (by omega), hneg]) (wrapd _) hlt (low64 h hc) w (hT.cell _ _ hz)
set_option maxRecDepth 100000 in
theorem tz_any (c p : Nat) (h : LowAt c p) (hc : c < 2097152) (w : World) (hT : Tab w) : Calls Tryd.prog 21 #[.int .u64 c] w fun e w' => e = .returned (.int .i64 (p : Nat)) ∧ w = w' := by
 go_enter Tryd.func21, Tryd.ntmps21
 go_wp2_with (go_at_call 31; refine (tz64 c p h hc _ hT).mono ?_; rintro e w' ⟨rfl, rfl⟩)
 go_ret
 exact ⟨rfl, rfl⟩
set_option maxRecDepth 100000 in
set_option maxHeartbeats 1000000 in
theorem num_any (n : Nat → Nat) (hn : By10 n) (d : Nat) (f : Nat → Bool) (k : Nat → Nat → Nat) (c : Nat) (hc : c < 2097152) (g : Nat) (w : World) (hL : LadAt w g n d f k) :
  Calls Tryd.prog 22 #[.pointer (some ⟨g, 0, none⟩), .int .i64 c] w fun e w' => e = .returned (.agg (row 10 (b8 (atF n c)))) ∧ Below w.heap.size w w' := by
 have hb1 : Blk (w.alloc (.cells (row 10 (b8 fun _ => 0)) 28)) w.heap.size 28 (row 10 (b8 fun _ => 0)) := Blk.fresh _ _ _
 have hB : Below w.heap.size w (w.alloc (.cells (row 10 (b8 fun _ => 0)) 28)) := (Below.refl _ _).alloc (Nat.le_refl _) _
 have hL1 : LadAt (w.alloc (.cells (row 10 (b8 fun _ => 0)) 28)) g n d f k := hL.blk.alloc _
 have hcell := hL1.num
 go_enter Tryd.func22, Tryd.ntmps22
 go_wp2_with (first
  | (with_reducible refine wpl_alloc rfl 28 rfl _ z10 ?_)
  | (with_reducible refine wpl_val rfl _ (exec_loadR 28 _ rfl ⟨g, 0, none⟩ rfl 10 _ hcell 5 Tryd.underlying28 i10) ?_)
  | (go_at_call 14; refine (at_any n hn c hc _).mono ?_; rintro e w3 ⟨rfl, hB3⟩; have hb3 := hb1.below hB3 hb1.lt; have hB4 := hB.trans (hB3.mono hB.size))
  | (with_reducible refine wpl_store rfl 28 _ _ rfl _ _ rfl rfl 28 _ hb3 (i10' _) (by simp [row_size]) (one_b8 _ _) ?_))
 exact ret_row Tryd.results22 rfl w.heap.size rfl 28 10 _ (hb3.setRow _) 5 Tryd.underlying28 i10 ⟨rfl, below_setRow' hB4 (by omega) _⟩
def nxE (r : Nat) : Ending := .returned (.tuple (if r < 2097152 then #[.int .i64 (r : Nat), .bool true] else #[.int .i64 0, .bool false]))
theorem next_out (z : Int) (hz : z < 0 ∨ 2097152 ≤ z) (w : World) : Calls Tryd.prog 7 #[.int .i64 z] w fun e w' => e = .returned (.tuple #[.int .i64 0, .bool false]) ∧ w = w' := by
 go_enter Tryd.func7, Tryd.ntmps7
 by_cases h0 : z < 0
 ·go_wp2
  go_ret2
  exact ⟨rfl, rfl⟩
 have h1 : 2097152 ≤ z := by omega
 go_wp2
 go_ret2
 exact ⟨rfl, rfl⟩
theorem i64_and_neg (c p : Nat) (h : LowAt c p) (hc : c < 2097152) : bits .and .i64 (c : Int) (-(c : Int)) = ((2 ^ p : Nat) : Int) := by
 have hp := h.pos
 have h0 := Nat.two_pow_pos p
 have hneg := h.neg (Nat.lt_trans hc (by decide))
 show IntKind.i64.wrap ((BitVec.ofInt 64 (c : Int) &&& BitVec.ofInt 64 (-(c : Int))).toNat : Int) = _
 have e : (BitVec.ofInt 64 (-(c : Int))).toNat = 2 ^ 64 - c := by
  rw [BitVec.toNat_ofInt]; omega
 rw [BitVec.toNat_and, ofInt_i64 c (by omega), e, hneg, wrap_i64_nat _ (by omega)]
theorem low21 {c p : Nat} (h : LowAt c p) (hc : c < 2097152) : p < 21 := by
 have hp := h.pos
 rcases Nat.lt_or_ge p 21 with h1 | h1
 ·exact h1
 have := Nat.pow_le_pow_right (n := 2) (by omega) h1; omega
theorem next_step {c m y : Nat} (H : ∀ q, c < q → q < m → 10 < Pop.ones 24 q) (hup : ∀ q, m ≤ q → q < m + y → 10 < Pop.ones 24 q) : ∀ q, c < q → q < m + y → 10 < Pop.ones 24 q := fun q a b => by
 rcases Nat.lt_or_ge q m with h | h
 ·exact H q a h
 exact hup q h b
theorem ones_top : Pop.ones 24 2097152 = 1 := by decide
set_option maxRecDepth 100000 in
set_option maxHeartbeats 1000000 in
theorem next_in (c : Nat) (hc : c < 2097152) (w : World) : Calls Tryd.prog 7 #[.int .i64 c] w fun e w' => (∃ r, IsNext c r ∧ e = nxE r) ∧ w = w' := by
 go_enter Tryd.func7, Tryd.ntmps7
 go_wp2
 go_loopw [4] (fun v wr => ∃ m : Nat, v = .int .i64 m ∧ c < m ∧ m ≤ 2097152 ∧ Hid (∀ q, c < q → q < m → 10 < Pop.ones 24 q) ∧ wr = w) (fun v _ => 2097152 - (intOf v).toNat)
 case atStart => exact ⟨c + 1, rfl, by omega, by omega, hid (fun q h1 h2 => by omega), rfl⟩
 case round =>
  obtain ⟨m, rfl, h1, h2, H, rfl⟩ := hrel
  by_cases h10 : 10 < Pop.ones 24 m
  ·have hm : m < 2097152 := by
    rcases Nat.lt_or_ge m 2097152 with h | h
    ·exact h
    rw [show m = 2097152 by omega, ones_top] at h10; omega
   obtain ⟨p, -, hp⟩ := low_ex 21 m (by omega) hm
   have e1 : wrap64 (-(m : Int)) = -(m : Int) := by unfold wrap64; omega
   have e2 := i64_and_neg m p hp hm
   have h3 := carry_le hp hm
   have hup : ∀ q, m ≤ q → q < m + 2 ^ p → 10 < Pop.ones 24 q := fun q a b => Nat.lt_of_lt_of_le h10 (ones_up hp (Nat.le_of_lt (Nat.lt_trans (low21 hp hm) (by omega))) a b)
   have h4 := Nat.two_pow_pos p
   clear hp
   have hcall := ones_any m (by omega)
   have ho := Pop.ones_le 24 m
   have hend := next_step H.out hup
   clear hup H
   generalize 2 ^ p = y at *
   generalize Pop.ones 24 m = o at *
   have e3 : wrap64 ((m : Int) + (y : Int)) = ((m + y : Nat) : Int) := by unfold wrap64; omega
   go_wp2_with (go_at_call 19; refine (hcall _).mono ?_; rintro e w' ⟨rfl, rfl⟩)
   go_round
   case rel => exact ⟨m + y, rfl, by omega, by omega, hid hend, trivial⟩
   case measure => simp [intOf]; omega
  have hcall := ones_any m (by omega)
  have ho := Pop.ones_le 24 m
  have hN : Hid (IsNext c m) := hid ⟨h1, h2, by omega, H.out⟩
  clear H
  generalize Pop.ones 24 m = o at *
  have hd : decide ((10 : Int) < (o : Int)) = false := decide_eq_false (by omega)
  have hw : Hid (IntKind.u64.wrap (m : Int) = (m : Int)) := hid (Des.u64_wrap m (by omega) _ rfl)
  clear h10 ho
  by_cases hm : m < 2097152
  ·have hm0 : decide ((2097152 : Int) ≤ (m : Int)) = false := decide_eq_false (by omega)
   have hE : Hid (Ending.returned (.tuple #[.int .i64 (m : Nat), .bool true]) = nxE m) := hid (by unfold nxE; rw [if_pos hm])
   clear h1 h2 hm
   go_wp2_with (go_at_call 19; (try rw [hw.out]); refine (hcall _).mono ?_; rintro e w' ⟨rfl, rfl⟩; clear hw hcall; go_simp)
   go_ret2
   exact ⟨⟨m, hN.out, hE.out⟩, rfl⟩
  have hE : Hid (Ending.returned (.tuple #[.int .i64 0, .bool false]) = nxE m) := hid (by unfold nxE; rw [if_neg hm])
  obtain rfl : m = 2097152 := by omega
  clear hm h1 h2
  go_wp2_with (go_at_call 19; (try rw [hw.out]); refine (hcall _).mono ?_; rintro e w' ⟨rfl, rfl⟩; clear hw hcall; go_simp)
  go_ret2
  exact ⟨⟨2097152, hN.out, hE.out⟩, rfl⟩
end Go.Proofs.YtinejbjndpdcmaaDoor.Lad
