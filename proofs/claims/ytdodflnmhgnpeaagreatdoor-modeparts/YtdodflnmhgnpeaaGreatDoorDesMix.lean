/-
  What des.mixed returns: a contract over the loaded program.
-/
import Derived.Test.YtdodflnmhgnpeaaGreatDoorDesWalks
import Derived.Test.YtdodflnmhgnpeaaGreatDoorMem5
namespace Go.Proofs.YtdodflnmhgnpeaaGreatDoor.Des
open Go.ChangeShapes Go.WideShapes Go.ChangeAt Go.RowKit Mem
def boxStr : List ByteArray := [⟨#[101, 52, 100, 49, 50, 102, 98, 56, 51, 97, 54, 99, 53, 57, 48, 55, 48, 102, 55, 52, 101, 50, 100, 49, 97, 54, 99, 98, 57, 53, 51, 56, 52, 49, 101, 56, 100, 54, 50, 98, 102, 99, 57, 55, 51, 97, 53, 48, 102, 99, 56, 50, 52, 57, 49, 55, 53, 98, 51, 101, 97, 48, 54, 100]⟩,
  ⟨#[102, 49, 56, 101, 54, 98, 51, 52, 57, 55, 50, 100, 99, 48, 53, 97, 51, 100, 52, 55, 102, 50, 56, 101, 99, 48, 49, 97, 54, 57, 98, 53, 48, 101, 55, 98, 97, 52, 100, 49, 53, 56, 99, 54, 57, 51, 50, 102, 100, 56, 97, 49, 51, 102, 52, 50, 98, 54, 55, 99, 48, 53, 101, 57]⟩,
  ⟨#[97, 48, 57, 101, 54, 51, 102, 53, 49, 100, 99, 55, 98, 52, 50, 56, 100, 55, 48, 57, 51, 52, 54, 97, 50, 56, 53, 101, 99, 98, 102, 49, 100, 54, 52, 57, 56, 102, 51, 48, 98, 49, 50, 99, 53, 97, 101, 55, 49, 97, 100, 48, 54, 57, 56, 55, 52, 102, 101, 51, 98, 53, 50, 99]⟩,
  ⟨#[55, 100, 101, 51, 48, 54, 57, 97, 49, 50, 56, 53, 98, 99, 52, 102, 100, 56, 98, 53, 54, 102, 48, 51, 52, 55, 50, 99, 49, 97, 101, 57, 97, 54, 57, 48, 99, 98, 55, 100, 102, 49, 51, 101, 53, 50, 56, 52, 51, 102, 48, 54, 97, 49, 100, 56, 57, 52, 53, 98, 99, 55, 50, 101]⟩,
  ⟨#[50, 99, 52, 49, 55, 97, 98, 54, 56, 53, 51, 102, 100, 48, 101, 57, 101, 98, 50, 99, 52, 55, 100, 49, 53, 48, 102, 97, 51, 57, 56, 54, 52, 50, 49, 98, 97, 100, 55, 56, 102, 57, 99, 53, 54, 51, 48, 101, 98, 56, 99, 55, 49, 101, 50, 100, 54, 102, 48, 57, 97, 52, 53, 51]⟩,
  ⟨#[99, 49, 97, 102, 57, 50, 54, 56, 48, 100, 51, 52, 101, 55, 53, 98, 97, 102, 52, 50, 55, 99, 57, 53, 54, 49, 100, 101, 48, 98, 51, 56, 57, 101, 102, 53, 50, 56, 99, 51, 55, 48, 52, 97, 49, 100, 98, 54, 52, 51, 50, 99, 57, 53, 102, 97, 98, 101, 49, 55, 54, 48, 56, 100]⟩,
  ⟨#[52, 98, 50, 101, 102, 48, 56, 100, 51, 99, 57, 55, 53, 97, 54, 49, 100, 48, 98, 55, 52, 57, 49, 97, 101, 51, 53, 99, 50, 102, 56, 54, 49, 52, 98, 100, 99, 51, 55, 101, 97, 102, 54, 56, 48, 53, 57, 50, 54, 98, 100, 56, 49, 52, 97, 55, 57, 53, 48, 102, 101, 50, 51, 99]⟩,
  ⟨#[100, 50, 56, 52, 54, 102, 98, 49, 97, 57, 51, 101, 53, 48, 99, 55, 49, 102, 100, 56, 97, 51, 55, 52, 99, 53, 54, 98, 48, 101, 57, 50, 55, 98, 52, 49, 57, 99, 101, 50, 48, 54, 97, 100, 102, 51, 53, 56, 50, 49, 101, 55, 52, 97, 56, 100, 102, 99, 57, 48, 51, 53, 54, 98]⟩]
def bxs (i : Nat) : ByteArray := boxStr.getD i ⟨#[]⟩
def bxv (i : Nat) : Value := .string (bxs i)
theorem bxs_ok : ∀ i, i < 8 → BoxS (bxs i) i := by decide +kernel
theorem zA8S : (Tryz.prog.info? 183).map (·.zero) = some (some (.agg (row 8 fun _ => .string ⟨#[]⟩))) := by kernel_rfl
theorem iA8S : (Tryz.prog.info? 183).map (·.size) = some 8 := by kernel_rfl
theorem iA8S' (f : Nat → Value) : (Tryz.prog.info? 183).map (·.size) = some (row 8 f).size := by rw [row_size]; exact iA8S
theorem iSTR : (Tryz.prog.info? 9).map (·.size) = some 1 := by kernel_rfl
section
variable {P : Program} {ops : Array Oper} {rest : List Oper} {o : Oper} {a : Act} {w : World} {Q : Exit → Act → World → Prop}
/-- an element of an array of strings that is a value -/
theorem wpl_indexS (hgd : o.guard = none) (ty : TypeId) (x ix : Operand) (ho : o.op = .index ty x ix) (cs : Array Value) (hx : a.eval x = .agg cs) (kd : IntKind) (z : Int) (hix : a.eval ix = .int kd z) (k : Nat) (hz : z = (k : Int))
    (n : Nat) (e : TypeId) (hu : P.underlying ty = some (.array n e)) (hk : k < n) (he : P.underlying e = some .string) (hs : (P.info? e).map (·.size) = some 1) (v : Value) (hv : cs[k]? = some v)
    (h : wpList P ops Q rest (a.put o.dst v) w) : wpList P ops Q (o :: rest) a w := by
  subst hz
  refine wpList_plain hgd fun _ hK => ?_
  have hr : (Instr.index ty (.agg cs) (.int kd (k : Int))).run P w = .ok v w := by
    simp [Instr.index, asIntOf, Sem.run_bind, run_underlying hu, run_size hs, show ¬ n ≤ k by omega, part, isAgg, run_underlying he, hv]
  unfold Oper.wp execOp
  simp only [ho, hx, hix, hr, Sem.run_bind, Sem.run_pure, Result.andThen_ok]
  exact hK _ _ h
/-- an array, built of what is known -/
theorem wpl_build {Q : Exit → Act → World → Prop} (hgd : o.guard = none) (ty : TypeId) (l : List (Nat × Operand)) (ho : o.op = .build ty l.toArray) (cs : Array Value) (hb : P.built ty (l.map fun p => (p.1, a.eval p.2)) = some cs)
    (h : wpList P ops Q rest (a.put o.dst (.agg cs)) w) : wpList P ops Q (o :: rest) a w := by
  refine wpList_plain hgd fun _ hK => ?_
  have e := run_build (P := P) w ty (l.map fun p => (p.1, a.eval p.2)).toArray cs hb
  unfold Oper.wp execOp
  simp only [ho, List.map_toArray, e, Sem.run_bind, Sem.run_pure, Result.andThen_ok]
  exact hK _ _ h
end
theorem six_still (x : Nat) (hx : x < 4294967296) (i : Nat) (hi : i < 8) (w : World) :
    Calls Tryz.prog 114 #[.int .u32 x, .int .i64 (i : Int)] w fun e w' => e = .returned (.int .u32 (e6 x i : Nat)) ∧ w' = w := (six_any x hx i hi w).mono fun _ _ ⟨h1, h2⟩ => ⟨h1, h2.symm⟩
theorem sb_lt (i v : Nat) (hi : i < 8) : sb i v < 16 := box_dig i hi _ (by omega)
theorem mx_lt (h k i : Nat) (hi : i ≤ 8) : mx h k i < 2 ^ (4 * i) := by
  induction i with
  | zero => simp [mx]
  | succ i ih =>
    have := ih (by omega)
    have := sb_lt i (e6 h i ^^^ k6 k i) (by omega)
    rw [mx, show 4 * (i + 1) = 4 * i + 4 by omega, Nat.pow_add]
    omega
theorem or_four (o b i : Nat) (ho : o < 2 ^ (4 * i)) (hi : i < 8) (hb : b < 16) : bits .or .u64 (IntKind.u64.wrap ((o : Int) * 16)) (b : Int) = ((16 * o + b : Nat) : Int) := by
  have : 2 ^ (4 * i) ≤ 2 ^ 28 := Nat.pow_le_pow_right (by omega) (by omega)
  rw [u64_wrap (o * 2 ^ 4) (by omega) _ (by omega), u64_or_nat _ _ (by omega) (by omega), or_add 4 _ _ (by omega)]
  congr 1
  omega
theorem e6_lt (h i : Nat) : e6 h i < 64 := Nat.mod_lt _ (by omega)
theorem k6_lt (h i : Nat) : k6 h i < 64 := Nat.mod_lt _ (by omega)
theorem six_lt (h k i : Nat) : e6 h i ^^^ k6 k i < 64 := Nat.xor_lt_two_pow (n := 6) (e6_lt _ _) (k6_lt _ _)
theorem key_six (h k n : Nat) (_hk : k < 281474976710656) : bits .xor .u32 ((e6 h n : Nat) : Int) (bits .and .u32 ((k : Int) / 2 ^ (42 - 6 * n) % 4294967296) 63) = ((e6 h n ^^^ k6 k n : Nat) : Int) := by
  have e1 : (k : Int) / 2 ^ (42 - 6 * n) % 4294967296 = ((k / 2 ^ (42 - 6 * n) % 4294967296 : Nat) : Int) := by simp
  have e2 : k / 2 ^ (42 - 6 * n) % 4294967296 % 64 = k6 k n := by unfold k6; omega
  have := e6_lt h n
  have := k6_lt k n
  rw [e1, and63 _ (Nat.mod_lt _ (by omega)), e2, u32_xor_nat _ _ (by omega) (by omega)]
set_option maxRecDepth 100000 in
set_option maxHeartbeats 1000000 in
theorem mixed_any (h k : Nat) (hh : h < 4294967296) (hk : k < 281474976710656) (w : World) :
    Calls Tryz.prog 105 #[.int .u32 h, .int .u64 k] w fun e w' => e = .returned (.int .u32 (ff h k : Nat)) ∧ Below w.heap.size w w' := by
  go_enter Tryz.func105, Tryz.ntmps105
  go_wp2_with (first
    | ((with_reducible refine wpl_build rfl 183 _ rfl (row 8 bxv) ?_ ?_); (kernel_rfl))
    | (with_reducible refine wpl_alloc rfl 183 rfl _ zA8S ?_)
    | (with_reducible refine wpl_store rfl 183 _ _ rfl _ _ rfl rfl 183 _ (Blk.fresh _ _ _) (iA8S' _) (by simp [row_size]) (one_row fun _ => rfl) ?_)
    | (with_reducible refine wpl_load rfl 183 _ rfl w.heap.size rfl 183 _ ((Blk.fresh _ _ _).setRow _) 8 9 Tryz.underlying183 (iA8S' _) ?_))
  have hB1 : Below w.heap.size w ((w.alloc (.cells (row 8 fun _ => .string { data := #[] }) 183)).setRow w.heap.size (row 8 bxv)) := below_setRow' ((Below.refl _ _).alloc (Nat.le_refl _) _) (Nat.le_refl _) _
  have HB1 := hid hB1
  clear hB1
  generalize (w.alloc (.cells (row 8 fun _ => .string { data := #[] }) 183)).setRow w.heap.size (row 8 bxv) = w1 at *
  go_loopw [6, 12] (fun o i wr => ∃ n q : Nat, n ≤ 8 ∧ o = .int .u64 (mx h k n : Nat) ∧ i = .int .i64 n ∧ Hid (wr = w1.drewN q)) (fun _ i _ => 8 - (intOf i).toNat)
  case atStart => exact ⟨0, 0, by omega, rfl, rfl, hid rfl⟩
  case round =>
    obtain ⟨n, q, hn, rfl, rfl, HW⟩ := hrel
    by_cases hlt : n < 8
    · have hw1 := wrap_i64 (6 * (n : Int)) _ rfl (by omega) (by omega)
      have hw2 := wrap_i64 (42 - 6 * (n : Int)) _ rfl (by omega) (by omega)
      go_wp2_with (with_reducible refine wpl_indexS rfl 183 _ _ rfl _ rfl .i64 _ rfl n rfl 8 9 Tryz.underlying183 hlt Tryz.underlying9 iSTR _ (row_get 8 bxv n hlt) ?_)
      refine wp_region_still_lit (by kernel_rfl) (by kernel_rfl) ?_
      repeat (first
        | still_step
        | still_call (six_still _ hh n hlt _))
      refine wpStill_nil ?_
      go_wp2_with fail
      rw [key_six h k n hk]
      refine (boxed_any (bxs n) n hlt (bxs_ok n hlt) _ (six_lt h k n) _).mono ?_
      rintro e w' ⟨rfl, rfl⟩
      go_wp2_with fail
      refine ⟨⟨n + 1, q + 1, by omega, val_int (or_four _ _ n (mx_lt h k n hn) hlt (sb_lt n _ hlt)), val_int (by omega), hid (by rw [HW.out]; rfl)⟩, by simp [intOf]; omega⟩
    · obtain ⟨hm1, hm2⟩ : mx h k n < 18446744073709551616 ∧ pk tp 32 (mx h k n) 32 < 4294967296 := ⟨by
        have := mx_lt h k n hn
        have : 2 ^ (4 * n) ≤ 2 ^ 32 := Nat.pow_le_pow_right (by omega) (by omega)
        omega, pk_lt _ _ _ _⟩
      go_wp2_with fail
      refine (pick_any _ 32 tp (by decide +kernel) _ 32 hm1 (by omega) (by omega) (fun i hi => (tp_range i hi).2) _).mono ?_
      rintro e w' ⟨rfl, q', rfl⟩
      go_wp2_with fail
      go_ret
      obtain rfl : n = 8 := by omega
      refine ⟨rfl, ?_⟩
      rw [HW.out]
      exact below_drewN (below_drewN HB1.out q) q'
end Go.Proofs.YtdodflnmhgnpeaaGreatDoor.Des
