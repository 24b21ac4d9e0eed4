/-
  DigitBack returns true: its walk.
-/
import Derived.Test.YtomeeebiijmnmaaLaw08
namespace Go.Proofs.Ytomeeebiijmnmaa.Dg.Back
open Mem Dg Go.ChangeShapes Go.WideShapes Go.ChangeAt Go.RowKit
/-- the bytes, each below 256 whatever lies behind them -/
def gm (g : Nat → Nat) (i : Nat) : Nat := g i % 256
theorem gm_lt (g : Nat → Nat) (i : Nat) : gm g i < 256 := Nat.mod_lt _ (by omega)
theorem num_step (a k u : Nat) (hu : u = a / 10 ^ k) : strF (k + 1) (cat k (numF a) fun _ => dg (u % 10)) = strF (k + 1) (numF a) := strF_ext fun i hi => by
  unfold cat
  by_cases h : i < k
  · rw [if_pos h]
  · rw [if_neg h]
    obtain rfl : i = k := by omega
    rw [hu]
    rfl
theorem div_step {a k u : Nat} (hu : u = a / 10 ^ k) : u / 10 = a / 10 ^ (k + 1) := by rw [hu, Nat.div_div_eq_div_mul, Nat.pow_succ]
/-- the number with its check digit and a 0 behind it -/
def more (q : Nat) (f : Nat → Nat) : Nat → Nat := cat 13 (cat 12 f fun _ => dg q) fun _ => 48
theorem more_all (q : Nat) (f : Nat → Nat) (hq : q < 10) (hf : AllD 10 12 f) : AllD 10 14 (more q f) := fun i hi => by
  unfold more cat
  by_cases h1 : i < 13
  · rw [if_pos h1]
    by_cases h2 : i < 12
    · rw [if_pos h2]; exact hf i h2
    · rw [if_neg h2, dv_dg (by omega)]; exact hq
  · rw [if_neg h1]
    show dv 48 < 10
    decide
theorem more_lt (q : Nat) (f : Nat → Nat) (hq : q < 10) (hf : ∀ i, f i < 256) (i : Nat) : more q f i < 256 := by
  unfold more cat
  split
  · split
    · exact hf i
    · exact dg_lt (by omega)
  · show 48 < 256
    omega
theorem more_chk (f : Nat → Nat) : chk 14 (more (chk 12 f) f) = 0 := by
  refine chk_chk 12 f _ (fun i hi => ?_) ?_ ?_
  · unfold more cat
    rw [if_pos (by omega), if_pos hi]
  · unfold more cat
    rw [if_pos (by omega), if_neg (by omega)]
    exact dv_dg (by have := chk_lt 12 f; omega)
  · unfold more cat
    rw [if_neg (by omega)]
    decide
theorem back_all (a b : Nat) : strF 12 (modF (modF (numF a) (numF b) false) (numF b) true) = strF 12 (numF a) := strF_ext fun _ hi => mod_mod (num_all a 12) (num_all b 12) hi
theorem s0 : strF 1 (fun _ => 48) = ⟨#[48]⟩ := by decide +kernel
theorem exec_catL {P : Program} {o : Oper} {a : Act} {w : World} (t : TypeId) (x y : Operand) (rt : TypeId) (ho : o.op = .binOp .add t x y rt) (n m : Nat) (f g : Nat → Nat) (s : ByteArray) (hx : a.eval x = .string (strF n f)) (hy : a.eval y = .string s) (hs : strF m g = s) (hn : n + m ≤ 1000000) :
    (execOp a.eval o).run P w = .ok (.value (.string (strF (n + m) (cat n f g)))) w := exec_cat t x y rt ho n m f g hx (hs ▸ hy) hn
set_option maxRecDepth 100000 in
set_option maxHeartbeats 1000000 in
theorem back_true (A : Option Addr) (L c : Nat) (g : Nat → Nat) (a b : Nat) (w : World) (hR : Reads w w.heap.size A L g) (hb : ∀ i, i < L → g i < 256) (ha : a < 18446744073709551616) (hb2 : b < 18446744073709551616) :
    Calls Try.prog 3 #[.slice A L c, .int .u64 (a : Int), .int .u64 (b : Int)] w fun e w' => e = .returned (.bool true) ∧ Below w.heap.size w w' := by
  have HR : Hid (Reads w w.heap.size A L (gm g)) := hid (hR.ext fun _ hi => by unfold gm; rw [Nat.mod_eq_of_lt (hb _ hi)])
  clear hR hb
  by_cases hL : L ≤ 200
  · have hLI : ¬ 200 < (L : Int) := by omega
    go_enter Try.func3, Try.ntmps3
    go_wp2_with fail
    refine (awake8_any _).mono ?_
    rintro e w1 ⟨rfl, hB1⟩
    go_wp2_with fail
    refine (hex_any A L c (gm g) _ (by omega) (fun i _ => gm_lt g i) ((HR.out.below hB1).more hB1.size)).mono ?_
    rintro e w2 ⟨rfl, hB2⟩
    have hB02 := hB1.trans (hB2.mono hB1.size)
    go_wp2_with fail
    refine (unhex_ok (2 * L) L (hexF (gm g)) _ (hexF_lt (gm_lt g)) (by omega) (hex_all L (gm g) fun _ _ => gm_lt g _) rfl).mono ?_
    rintro e w3 ⟨rfl, hb3, hB3⟩
    have hB03 := hB02.trans (hB3.mono hB02.size)
    have Hx := hid (Reads.ext (Blk.reads hb3) fun i _ => unh_hex (gm g) i (gm_lt g i))
    clear hb3
    go_wp2_with fail
    refine (same_yes _ A L L c (gm g) _ (by omega) Hx.out ((HR.out.below hB03).more hB03.size)).mono ?_
    rintro e w4 ⟨rfl, hB4⟩
    have HB4 := hid (hB03.trans (hB4.mono hB03.size))
    clear hB1 hB2 hB02 hB3 hB03 hB4 Hx HR
    go_wp2_with fail
    generalize Value.bool (decide (200 < (L : Int))) = vb0 at *
    go_loopw [1, 2, 9, 10, 11] (fun p q s t y wr => ∃ k u v : Nat, k ≤ 12 ∧ p = .int .u64 (u : Int) ∧ q = .int .u64 (v : Int) ∧ s = .string (strF k (numF a)) ∧ t = .string (strF k (numF b)) ∧ y = .int .i64 (k : Int) ∧ u < 18446744073709551616 ∧ v < 18446744073709551616 ∧ Hid (u = a / 10 ^ k) ∧ Hid (v = b / 10 ^ k) ∧ Hid (Below w.heap.size w wr)) (fun _ _ _ _ y _ => 12 - (intOf y).toNat)
    case atStart => exact ⟨0, a, b, by omega, rfl, rfl, rfl, rfl, rfl, ha, hb2, hid (by simp), hid (by simp), HB4⟩
    case round =>
      clear HB4 ha hb2
      obtain ⟨k, u, v, hk, rfl, rfl, rfl, rfl, rfl, hu, hv, HU, HV, HB⟩ := hrel
      by_cases hlt : k < 12
      · have hltI : (k : Int) < 12 := by omega
        have H1 := hid (num_step a k u HU.out)
        have H2 := hid (num_step b k v HV.out)
        have H3 := hid (div_step HU.out)
        have H4 := hid (div_step HV.out)
        go_wp2_with fail
        refine (digit_of _ (u % 10) (by omega) (by omega) _).mono ?_
        rintro e w5 ⟨rfl, hB5⟩
        have HB5 := hid (HB.out.trans (hB5.mono HB.out.size))
        go_wp2_with (first
          | (with_reducible refine wpl_val rfl _ (exec_cat _ _ _ _ rfl k 1 _ _ rfl rfl (by omega)) ?_; rw [H1.out]))
        refine (digit_of _ (v % 10) (by omega) (by omega) _).mono ?_
        rintro e w6 ⟨rfl, hB6⟩
        have HB6 := hid (HB5.out.trans (hB6.mono HB5.out.size))
        go_wp2_with (first
          | (with_reducible refine wpl_val rfl _ (exec_cat _ _ _ _ rfl k 1 _ _ rfl rfl (by omega)) ?_; rw [H2.out]))
        go_round
        case rel => exact ⟨k + 1, u / 10, v / 10, by omega, val_int (by omega), val_int (by omega), rfl, rfl, val_int (by omega), by omega, by omega, hid H3.out, hid H4.out, HB6⟩
        case measure => simp [intOf]; omega
      · have hltI : ¬ (k : Int) < 12 := by omega
        obtain rfl : k = 12 := by omega
        have hna := num_all a 12
        have hnb := num_all b 12
        have Hq : Hid (∃ q, q = chk 12 (numF a)) := ⟨_, rfl⟩
        obtain ⟨q, hq⟩ := Hq.out
        have hq10 : q < 10 := hq ▸ chk_lt 12 (numF a)
        have Hmc : Hid (chk 14 (more q (numF a)) = 0) := hid (hq ▸ more_chk (numF a))
        have Hq := hid hq
        have Hba := hid (back_all a b)
        clear hq HU HV
        go_wp2_with fail
        refine (mod_ok 12 (numF a) (numF b) false _ (numF_lt a) (numF_lt b) (by omega) hna hnb).mono ?_
        rintro e w5 ⟨rfl, hB5⟩
        have HB5 := hid (HB.out.trans (hB5.mono HB.out.size))
        go_wp2_with fail
        refine (mod_ok 12 (modF (numF a) (numF b) false) (numF b) true _ (modF_lt _ _ _) (numF_lt b) (by omega) (mod_all _ _ _ _) hnb).mono ?_
        rintro e w6 ⟨rfl, hB6⟩
        rw [Hba.out]
        have HB6 := hid (HB5.out.trans (hB6.mono HB5.out.size))
        go_wp2_with fail
        refine (check_ok 12 (numF a) _ (numF_lt a) (by omega) hna).mono ?_
        rintro e w7 ⟨rfl, rfl⟩
        rw [← Hq.out]
        have hcv := one_str w7 ((dg q : Nat) : Int) (dg q) rfl
        go_wp2_with (first
          | (with_reducible refine wpl_val rfl _ (exec_cat _ _ _ _ rfl 12 1 (numF a) (fun _ => dg q) rfl rfl (by omega)) ?_)
          | (with_reducible refine wpl_val rfl _ (exec_catL _ _ _ _ rfl 13 1 (cat 12 (numF a) fun _ => dg q) (fun _ => 48) ⟨#[48]⟩ rfl rfl s0 (by omega)) ?_))
        refine (check_ok 14 (more q (numF a)) _ (more_lt q _ hq10 (numF_lt a)) (by omega) (more_all q _ hq10 hna)).mono ?_
        rintro e w8 ⟨rfl, rfl⟩
        rw [Hmc.out]
        have hd0 : dg 0 = 48 := rfl
        rw [hd0]
        go_wp2_with fail
        go_ret
        exact ⟨rfl, HB6.out.alloc HB6.out.size _⟩
  · have hLI : 200 < (L : Int) := by omega
    go_enter Try.func3, Try.ntmps3
    go_wp2_with fail
    refine (awake8_any _).mono ?_
    rintro e w1 ⟨rfl, hB1⟩
    go_wp2_with fail
    refine (awake8_any _).mono ?_
    rintro e w2 ⟨rfl, hB2⟩
    go_wp2_with fail
    go_ret
    exact ⟨rfl, hB1.trans (hB2.mono hB1.size)⟩
end Go.Proofs.Ytomeeebiijmnmaa.Dg.Back
