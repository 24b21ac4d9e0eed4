/-
  What the small functions of package des return: contracts over the loaded program.
-/
import Derived.Test.YtdodflnmhgnpeaaGreatDoorStrs
import Derived.Test.YtdodflnmhgnpeaaGreatDoorDesMath
import Derived.Laws.BitsAllLaws
namespace Go.Proofs.YtdodflnmhgnpeaaGreatDoor.Des
open Go.ChangeShapes Go.WideShapes Go.ChangeAt Go.RowKit Mem

theorem u8_in (x y : Int) (h : x = y) (h1 : 0 ≤ y) (h2 : y < 256) : IntKind.u8.wrap x = y := by
  subst h; simp only [IntKind.wrap, IntKind.bits, IntKind.signed]; simp; omega
set_option maxRecDepth 100000 in
theorem place_any (s : ByteArray) (n : Nat) (p : Nat → Nat) (hs : TabS s n p) (i : Nat) (hi : i < n) (hn : n ≤ 1000) (w : World) :
    Calls Tryz.prog 113 #[.string s, .int .i64 i] w fun e w' => e = .returned (.int .i64 (p i : Nat)) ∧ ∃ q, w' = w.drewN q := by
  obtain ⟨hp, h0, h1⟩ := hs.2 i hi
  have hw1 := wrap_i64 (2 * (i : Int)) _ rfl (by omega) (by omega)
  have hw2 := wrap_i64 (2 * (i : Int) + 1) _ rfl (by omega) (by omega)
  have hu1 := u8_in (48 + ((p i : Nat) : Int) / 10 - 48) (((p i : Nat) : Int) / 10) (by omega) (by omega) (by omega)
  have hu2 := u8_in (48 + ((p i : Nat) : Int) % 10 - 48) (((p i : Nat) : Int) % 10) (by omega) (by omega) (by omega)
  have hw3 := wrap_i64 (((p i : Nat) : Int) / 10) _ rfl (by omega) (by omega)
  have hw4 := wrap_i64 (((p i : Nat) : Int) % 10) _ rfl (by omega) (by omega)
  have hw5 := wrap_i64 (10 * (((p i : Nat) : Int) / 10)) _ rfl (by omega) (by omega)
  have hw6 := wrap_i64 (10 * (((p i : Nat) : Int) / 10) + ((p i : Nat) : Int) % 10) ((p i : Nat) : Int) (by omega) (by omega) (by omega)
  go_enter Tryz.func113, Tryz.ntmps113
  go_wp2_with fail
  refine wp_region_still_lit (by kernel_rfl) (by kernel_rfl) ?_
  repeat (first
    | (with_reducible refine wps_str rfl 9 _ _ rfl s rfl .i64 _ rfl (2 * i) (by omega) Tryz.underlying9 _ h0 ?_)
    | (with_reducible refine wps_str rfl 9 _ _ rfl s rfl .i64 _ rfl (2 * i + 1) (by omega) Tryz.underlying9 _ h1 ?_)
    | still_step)
  refine wpStill_nil ?_
  go_wp2_with fail
  go_ret
  exact ⟨rfl, 1, rfl⟩
theorem u64_wrap (n : Nat) (h : n < 18446744073709551616) (x : Int) (hx : x = n) : IntKind.u64.wrap x = n := by
  subst hx; exact IntWalk.u64_in _ (by omega)
theorem and_one (x m : Nat) (hx : x < 18446744073709551616) : bits .and .u64 ((x : Int) / 2 ^ m) 1 = ((x / 2 ^ m % 2 : Nat) : Int) := by
  have e : ((x : Int) / 2 ^ m) = ((x / 2 ^ m : Nat) : Int) := by simp
  have := u64_and_nat (x / 2 ^ m) 1 (Nat.lt_of_le_of_lt (Nat.div_le_self _ _) hx) (by omega)
  rw [Nat.and_one_is_mod] at this
  rw [e]; exact this
theorem or_add (n o b : Nat) (hb : b < 2 ^ n) : o * 2 ^ n ||| b = o * 2 ^ n + b := by
  rw [Nat.mul_comm]; exact (Nat.two_pow_add_eq_or_of_lt hb o).symm
theorem or_bit (o x m k : Nat) (ho : o < 2 ^ k) (hk : k < 64) (hx : x < 18446744073709551616) : bits .or .u64 (IntKind.u64.wrap ((o : Int) * 2)) (bits .and .u64 ((x : Int) / 2 ^ m) 1) = ((2 * o + x / 2 ^ m % 2 : Nat) : Int) := by
  have : 2 ^ k ≤ 2 ^ 63 := Nat.pow_le_pow_right (by omega) (by omega)
  rw [u64_wrap (o * 2 ^ 1) (by omega) _ (by omega), and_one x m hx, u64_or_nat _ _ (by omega) (by omega), or_add 1 _ _ (by omega)]
  congr 1
  omega
set_option maxRecDepth 100000 in
theorem pick_any (s : ByteArray) (n : Nat) (p : Nat → Nat) (hs : TabS s n p) (x sz : Nat) (hx : x < 18446744073709551616) (hn : n ≤ 64) (hsz : sz ≤ 64) (hp : ∀ i, i < n → p i ≤ sz) (w : World) :
    Calls Tryz.prog 103 #[.string s, .int .u64 x, .int .i64 sz] w fun e w' => e = .returned (.int .u64 (pk p sz x n : Nat)) ∧ ∃ q, w' = w.drewN q := by
  have Hs := hid hs
  have Hp := hid hp
  have hsize : s.size = 2 * n := hs.1
  clear hs hp
  go_enter Tryz.func103, Tryz.ntmps103
  go_wp2_with fail
  go_loopw [7, 12] (fun o i wr => ∃ k q : Nat, k ≤ n ∧ o = .int .u64 (pk p sz x k : Nat) ∧ i = .int .i64 k ∧ Hid (wr = w.drewN q)) (fun _ i _ => n - (intOf i).toNat)
  case atStart => exact ⟨0, 0, by omega, rfl, rfl, hid rfl⟩
  case round =>
    obtain ⟨k, q, hk, rfl, rfl, HW⟩ := hrel
    by_cases hlt : k < n
    · have hpk := Hp.out k hlt
      have hb := pk_lt p sz x k
      go_wp2_with (go_at_call 113; refine (place_any s n p Hs.out k hlt (by omega) _).mono ?_; rintro e w' ⟨rfl, q', rfl⟩)
      refine ⟨⟨k + 1, q + q', by omega, val_int (or_bit _ _ _ k hb (by omega) hx), val_int (by omega), hid (by rw [HW.out, World.drewN_drewN])⟩, by simp [intOf]; omega⟩
    · go_wp2_with fail
      go_ret
      obtain rfl : k = n := by omega
      exact ⟨rfl, q, HW.out⟩
theorem hex_any (c : Nat) (hc : (48 ≤ c ∧ c ≤ 57) ∨ (97 ≤ c ∧ c ≤ 102)) (w : World) :
    Calls Tryz.prog 118 #[.int .u8 c] w fun e w' => e = .returned (.int .u64 ((if 97 ≤ c then c - 87 else c - 48 : Nat) : Int)) ∧ w = w' := by
  by_cases h : 97 ≤ c
  · have hd : decide ((97 : Int) ≤ (c : Int)) = true := by simp; omega
    go_enter Tryz.func118, Tryz.ntmps118
    go_wp2
    go_ret
    exact ⟨ret_int (by omega), rfl⟩
  · have hd : decide ((97 : Int) ≤ (c : Int)) = false := by simp; omega
    go_enter Tryz.func118, Tryz.ntmps118
    go_wp2
    go_ret
    exact ⟨ret_int (by omega), rfl⟩
theorem turns_any (r : Nat) (hr : r < 16) (w : World) :
    Calls Tryz.prog 111 #[.int .i64 ((r : Int) + 1)] w fun e w' => e = .returned (.int .i64 (tn r : Nat)) ∧ w = w' := by
  have all : ∀ r, r < 16 → r = 0 ∨ r = 1 ∨ r = 2 ∨ r = 3 ∨ r = 4 ∨ r = 5 ∨ r = 6 ∨ r = 7 ∨ r = 8 ∨ r = 9 ∨ r = 10 ∨ r = 11 ∨ r = 12 ∨ r = 13 ∨ r = 14 ∨ r = 15 := by omega
  rcases all r hr with rfl | rfl | rfl | rfl | rfl | rfl | rfl | rfl | rfl | rfl | rfl | rfl | rfl | rfl | rfl | rfl
  all_goals
    go_enter Tryz.func111, Tryz.ntmps111
    go_wp2
    go_ret
    exact ⟨rfl, rfl⟩
theorem or_up (u x m t : Nat) (hu : u < 18446744073709551616) (hx : x < 18446744073709551616) (ht : t < 64) : bits .or .u64 (u : Int) (IntKind.u64.wrap (bits .and .u64 ((x : Int) / 2 ^ m) 1 * 2 ^ t)) = ((u ||| (x / 2 ^ m % 2) * 2 ^ t : Nat) : Int) := by
  have h1 : (x / 2 ^ m % 2) * 2 ^ t < 2 ^ 64 := by
    have : 2 ^ t ≤ 2 ^ 63 := Nat.pow_le_pow_right (by omega) (by omega)
    rcases (show x / 2 ^ m % 2 = 0 ∨ x / 2 ^ m % 2 = 1 by omega) with h | h <;> rw [h] <;> omega
  rw [and_one x m hx, u64_wrap ((x / 2 ^ m % 2) * 2 ^ t) h1 _ (by simp), u64_or_nat _ _ hu h1]
theorem up_ltk (x k : Nat) (hk : k ≤ 64) : up ip 64 x k < 18446744073709551616 := by
  apply Nat.lt_pow_two_of_testBit (n := 64)
  intro j hj
  cases h : (up ip 64 x k).testBit j with
  | false => rfl
  | true =>
    obtain ⟨i, h1, h2, _⟩ := (up_bit ip 64 x k j).1 h
    have := ip_range i (by omega)
    omega
set_option maxRecDepth 100000 in
theorem unpick_any (s : ByteArray) (hs : TabS s 64 ip) (x : Nat) (hx : x < 18446744073709551616) (w : World) :
    Calls Tryz.prog 107 #[.string s, .int .u64 x, .int .i64 64] w fun e w' => e = .returned (.int .u64 (up ip 64 x 64 : Nat)) ∧ ∃ q, w' = w.drewN q := by
  have Hs := hid hs
  clear hs
  go_enter Tryz.func107, Tryz.ntmps107
  go_wp2_with fail
  go_loopw [7, 11] (fun o i wr => ∃ k q : Nat, k ≤ 64 ∧ o = .int .u64 (up ip 64 x k : Nat) ∧ i = .int .i64 k ∧ Hid (wr = w.drewN q)) (fun _ i _ => 64 - (intOf i).toNat)
  case atStart => exact ⟨0, 0, by omega, rfl, rfl, hid rfl⟩
  case round =>
    obtain ⟨k, q, hk, rfl, rfl, HW⟩ := hrel
    by_cases hlt : k < 64
    · have hpk := ip_range k hlt
      have hb := up_ltk x k (by omega)
      go_wp2_with (go_at_call 113; refine (place_any s 64 ip Hs.out k hlt (by omega) _).mono ?_; rintro e w' ⟨rfl, q', rfl⟩)
      refine ⟨⟨k + 1, q + q', by omega, val_int ?_, val_int (by omega), hid (by rw [HW.out, World.drewN_drewN])⟩, by simp [intOf]; omega⟩
      have := or_up (up ip 64 x k) x (64 - 1 - k) (64 - ip k) hb hx (by omega)
      exact this
    · go_wp2_with fail
      go_ret
      obtain rfl : k = 64 := by omega
      exact ⟨rfl, q, HW.out⟩
theorem rt_or (n x k : Nat) (hx : x < 2 ^ n) : x * 2 ^ k % 2 ^ n ||| x / 2 ^ (n - k) = rt n x k := by
  unfold rt
  rw [Nat.or_mod_two_pow]
  congr 1
  exact (Nat.mod_eq_of_lt (Nat.lt_of_le_of_lt (Nat.div_le_self _ _) hx)).symm
theorem and_mask (x m : Nat) (hx : x < 18446744073709551616) (hm : m < 64) : bits .and .u64 (x : Int) ((2 ^ m - 1 : Nat) : Int) = ((x % 2 ^ m : Nat) : Int) := by
  have h64 : 2 ^ m ≤ 2 ^ 63 := Nat.pow_le_pow_right (by omega) (by omega)
  rw [u64_and_nat x (2 ^ m - 1) hx (by omega), Nat.and_two_pow_sub_one_eq_mod]
theorem half_turn (x k : Nat) (hx : x < 268435456) (hk : k ≤ 28) : bits .and .u64 (bits .or .u64 ((x * 2 ^ k : Nat) : Int) ((x / 2 ^ (28 - k) : Nat) : Int)) 268435455 = ((rt 28 x k : Nat) : Int) := by
  have h1 : x * 2 ^ k < 2 ^ 56 := by
    have : 2 ^ k ≤ 2 ^ 28 := Nat.pow_le_pow_right (by omega) (by omega)
    calc x * 2 ^ k ≤ x * 2 ^ 28 := Nat.mul_le_mul_left _ this
      _ < 2 ^ 56 := by omega
  have h2 : x / 2 ^ (28 - k) < 2 ^ 56 := Nat.lt_of_le_of_lt (Nat.div_le_self _ _) (by omega)
  rw [u64_or_nat _ _ (by omega) (by omega)]
  exact and_mask _ 28 (Nat.lt_of_lt_of_le (Nat.or_lt_two_pow h1 h2) (by omega)) (by omega)
theorem turnHalf_any (x k : Nat) (hx : x < 268435456) (hk : k = 1 ∨ k = 2) (w : World) :
    Calls Tryz.prog 112 #[.int .u64 x, .int .i64 k] w fun e w' => e = .returned (.int .u64 (rt 28 x k : Nat)) ∧ ∃ q, w' = w.drewN q := by
  rcases hk with rfl | rfl
  · go_enter Tryz.func112, Tryz.ntmps112
    go_wp2
    go_quiet (fail)
    go_wp2
    go_ret
    exact ⟨ret_int (half_turn x 1 hx (by omega)), _, rfl⟩
  · go_enter Tryz.func112, Tryz.ntmps112
    go_wp2
    go_quiet (fail)
    go_wp2
    go_ret
    exact ⟨ret_int (half_turn x 2 hx (by omega)), _, rfl⟩
theorem rot_k (x : Nat) (hx : x < 4294967296) (k s : Nat) (hk : k < 100) (hs : 1 ≤ s) (hs2 : s ≤ 31) (hm : bits .and .u64 (k : Int) 31 = (s : Int)) (w : World) :
    Calls Tryz.prog 117 #[.int .u32 x, .int .i64 k] w fun e w' => e = .returned (.int .u32 (rt 32 x s : Nat)) ∧ w = w' := by
  go_enter Tryz.func117, Tryz.ntmps117
  go_wp2
  go_ret
  refine ⟨ret_int ?_, rfl⟩
  have e1 : (x : Int) * 2 ^ s % 4294967296 = ((x * 2 ^ s % 2 ^ 32 : Nat) : Int) := by simp
  have e2 : (x : Int) / 2 ^ (32 - s) = ((x / 2 ^ (32 - s) : Nat) : Int) := by simp
  rw [e1, e2, u32_or_nat _ _ (Nat.mod_lt _ (by omega)) (Nat.lt_of_le_of_lt (Nat.div_le_self _ _) hx), rt_or 32 x s hx]
theorem rot_any (x : Nat) (hx : x < 4294967296) (i : Nat) (hi : i < 8) (w : World) :
    Calls Tryz.prog 117 #[.int .u32 x, .int .i64 (4 * (i : Int) + 5)] w fun e w' => e = .returned (.int .u32 (rt 32 x ((4 * i + 5) % 32) : Nat)) ∧ w = w' := by
  have hm : ∀ i, i < 8 → bits .and .u64 ((4 * i + 5 : Nat) : Int) 31 = (((4 * i + 5) % 32 : Nat) : Int) := by decide +kernel
  have hs : ∀ i, i < 8 → 1 ≤ (4 * i + 5) % 32 := by decide
  exact rot_k x hx (4 * i + 5) _ (by omega) (hs i hi) (by omega) (hm i hi) w
theorem and63 (x : Nat) (hx : x < 4294967296) : bits .and .u32 (x : Int) 63 = ((x % 64 : Nat) : Int) := by
  have := u32_and_nat x (2 ^ 6 - 1) hx (by omega)
  rw [Nat.and_two_pow_sub_one_eq_mod] at this
  exact this
theorem six_any (x : Nat) (hx : x < 4294967296) (i : Nat) (hi : i < 8) (w : World) :
    Calls Tryz.prog 114 #[.int .u32 x, .int .i64 (i : Int)] w fun e w' => e = .returned (.int .u32 (e6 x i : Nat)) ∧ w = w' := by
  go_enter Tryz.func114, Tryz.ntmps114
  go_wp2_with (go_at_call 117; refine (rot_any x hx i hi _).mono ?_; rintro e w' ⟨rfl, rfl⟩)
  go_ret
  exact ⟨ret_int (and63 _ (rt_lt 32 _ _)), rfl⟩
def hexc (d : Nat) : Nat := if d < 10 then 48 + d else 87 + d
/-- the string s has the digits of box i -/
def BoxS (s : ByteArray) (i : Nat) : Prop := s.size = 64 ∧ ∀ j, j < 64 → byteAt s j = some (hexc ((boxes.getD i []).getD j 0))
instance (s : ByteArray) (i : Nat) : Decidable (BoxS s i) := by unfold BoxS; infer_instance
theorem box_dig : ∀ i, i < 8 → ∀ j, j < 64 → (boxes.getD i []).getD j 0 < 16 := by decide +kernel
theorem hexc_ok : ∀ d, d < 16 → ((48 ≤ hexc d ∧ hexc d ≤ 57) ∨ (97 ≤ hexc d ∧ hexc d ≤ 102)) ∧ (if 97 ≤ hexc d then hexc d - 87 else hexc d - 48) = d := by decide +kernel
theorem hexd_any (d : Nat) (hd : d < 16) (w : World) : Calls Tryz.prog 118 #[.int .u8 ((hexc d : Nat) : Int)] w fun e w' => e = .returned (.int .u64 (d : Nat)) ∧ w = w' := by
  have := hex_any (hexc d) (hexc_ok d hd).1 w
  rwa [(hexc_ok d hd).2] at this
theorem row_bits : ∀ v, v < 64 → bits .or .u32 (bits .and .u32 ((v : Nat) / 16 : Int) 2) (bits .and .u32 ((v : Nat) : Int) 1) = ((2 * (v / 32 % 2) + v % 2 : Nat) : Int) := by decide +kernel
theorem col_bits : ∀ v, v < 64 → bits .and .u32 ((v : Nat) / 2 : Int) 15 = ((v / 2 % 16 : Nat) : Int) := by decide +kernel
set_option maxRecDepth 100000 in
theorem boxed_any (s : ByteArray) (i : Nat) (hi : i < 8) (hs : BoxS s i) (v : Nat) (hv : v < 64) (w : World) :
    Calls Tryz.prog 115 #[.string s, .int .u32 v] w fun e w' => e = .returned (.int .u64 (sb i v : Nat)) ∧ w = w' := by
  have hr := row_bits v hv
  have hc := col_bits v hv
  have hlt : 16 * (2 * (v / 32 % 2) + v % 2) + v / 2 % 16 < 64 := by omega
  have hb := hs.2 _ hlt
  have hd := box_dig i hi _ hlt
  clear hs
  go_enter Tryz.func115, Tryz.ntmps115
  go_wp2_with (first
    | (with_reducible refine wpl_str rfl 9 _ _ rfl s rfl .u32 _ rfl (16 * (2 * (v / 32 % 2) + v % 2) + v / 2 % 16) (by omega) Tryz.underlying9 _ hb ?_)
    | (go_at_call 118; refine (hexd_any _ hd _).mono ?_; rintro e w' ⟨rfl, rfl⟩))
  go_ret
  exact ⟨rfl, rfl⟩
theorem z8 : (Tryz.prog.info? 117).map (·.zero) = some (some (.agg (row 8 (b8 fun _ => 0)))) := by kernel_rfl
theorem i8a : (Tryz.prog.info? 117).map (·.size) = some 8 := by kernel_rfl
theorem i8a' (f : Nat → Value) : (Tryz.prog.info? 117).map (·.size) = some (row 8 f).size := by rw [row_size]; exact i8a
theorem i8 : (Tryz.prog.info? 5).map (·.size) = some 1 := by kernel_rfl
theorem or_byte (o b k : Nat) (ho : o < 2 ^ (8 * k)) (hk : k < 8) (hb : b < 256) : bits .or .u64 (IntKind.u64.wrap ((o : Int) * 256)) (b : Int) = ((256 * o + b : Nat) : Int) := by
  have : 2 ^ (8 * k) ≤ 2 ^ 56 := Nat.pow_le_pow_right (by omega) (by omega)
  rw [u64_wrap (o * 2 ^ 8) (by omega) _ (by omega), u64_or_nat _ _ (by omega) (by omega), or_add 8 _ _ (by omega)]
  congr 1
  omega
set_option maxRecDepth 100000 in
theorem num_any (f : Nat → Nat) (hf : By8 f) (w : World) :
    Calls Tryz.prog 104 #[.agg (row 8 (b8 f))] w fun e w' => e = .returned (.int .u64 (num f 8 : Nat)) ∧ Below w.heap.size w w' := by
  have Hf := hid hf
  clear hf
  go_enter Tryz.func104, Tryz.ntmps104
  go_wp2_with (with_reducible refine wpl_load rfl 117 _ rfl w.heap.size rfl 117 _ (Blk.fresh _ _ _) 8 5 Tryz.underlying117 (i8a' _) ?_)
  go_loop [3, 7] (fun n i => ∃ k : Nat, k ≤ 8 ∧ n = .int .u64 (num f k : Nat) ∧ i = .int .i64 k) (fun _ i => 8 - (intOf i).toNat)
  case atStart => exact ⟨0, by omega, rfl, rfl⟩
  case round =>
    obtain ⟨k, hk, rfl, rfl⟩ := hrel
    by_cases hlt : k < 8
    · have hb := num_lt Hf.out k hk
      have hfk := Hf.out k hlt
      go_wp2_with (with_reducible refine wpl_index rfl 117 _ _ rfl _ rfl .i64 _ rfl k rfl 8 5 Tryz.underlying117 hlt .u8 Tryz.underlying5 i8 _ (row_val 8 f k hlt) ?_)
      exact ⟨⟨k + 1, by omega, val_int (or_byte _ _ k hb hlt hfk), val_int (by omega)⟩, by simp [intOf]; omega⟩
    · go_wp2_with fail
      go_ret
      obtain rfl : k = 8 := by omega
      exact ⟨rfl, (Below.refl _ _).alloc (Nat.le_refl _) _⟩
theorem two_new (w : World) (o : Obj) (c : Array Value) (t : TypeId) : Blk ((w.alloc o).alloc (.cells c t)) (w.heap.size + 1) t c := by simpa using Blk.fresh (w.alloc o) t c
set_option maxRecDepth 100000 in
theorem byt_any (n : Nat) (_hn : n < 18446744073709551616) (w : World) :
    Calls Tryz.prog 106 #[.int .u64 n] w fun e w' => e = .returned (.agg (row 8 (b8 (byt n)))) ∧ Below w.heap.size w w' := by
  go_enter Tryz.func106, Tryz.ntmps106
  go_wp2_with (with_reducible refine wpl_alloc rfl 117 rfl _ z8 ?_)
  go_loopw [5] (fun i wr => ∃ (k : Nat) (m m' : Nat → Nat), k ≤ 8 ∧ i = .int .i64 k ∧ Hid (∀ j, m j = if j < k then byt n j else 0) ∧ Blk wr w.heap.size 117 (row 8 (b8 m')) ∧ Blk wr (w.heap.size + 1) 117 (row 8 (b8 m)) ∧ Below w.heap.size w wr) (fun i _ => 8 - (intOf i).toNat)
  case atStart =>
    exact ⟨0, fun _ => 0, fun _ => 0, by omega, rfl, hid (by simp), (Blk.fresh _ _ _).alloc _, two_new _ _ _ _, ((Below.refl _ _).alloc (Nat.le_refl _) _).alloc (by simp) _⟩
  case round =>
    obtain ⟨k, m, m', hk, rfl, HM, hb1, hb2, hB⟩ := hrel
    by_cases hlt : k < 8
    · go_wp2_with (first
        | (with_reducible refine wpl_at rfl 117 _ _ rfl _ rfl .i64 _ rfl k rfl 8 5 Tryz.underlying117 hlt i8 ?_)
        | (with_reducible refine wpl_st rfl 5 _ _ rfl _ rfl .u8 _ rfl i8 _ (hb2.val k hlt) (hb2.free k) ?_))
      go_round
      case rel =>
        rw [show (n : Int) / 2 ^ (56 - 8 * k) % 256 = ((byt n k : Nat) : Int) by simp [byt]]
        exact ⟨k + 1, upd m k (byt n k), m', by omega, val_int (by omega), hid (fill_step (F := byt n) HM.out), hb1.other _ _ (by simp), hb2.put k _, hB.setCell (by simp) _⟩
      case measure => simp [intOf]; omega
    · go_wp2_with (first
        | (with_reducible refine wpl_load rfl 117 _ rfl _ rfl 117 _ hb2 8 5 Tryz.underlying117 (i8a' _) ?_)
        | (with_reducible refine wpl_store rfl 117 _ _ rfl _ _ rfl rfl 117 _ hb1 (i8a' _) (by simp [row_size]) (one_b8 _ _) ?_))
      exact ret_row Tryz.results106 rfl w.heap.size rfl 117 8 _ (hb1.setRow _) 5 Tryz.underlying117 i8a ⟨ret_agg (fill_end HM.out (by omega)), below_setRow' hB (by omega) _⟩
end Go.Proofs.YtdodflnmhgnpeaaGreatDoor.Des
