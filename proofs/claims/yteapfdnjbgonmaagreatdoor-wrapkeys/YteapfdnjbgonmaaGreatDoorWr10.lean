/-
 What Kind, Fill, Fits and Keys of lockboxref11 return.
-/
import Derived.Test.YteapfdnjbgonmaaGreatDoorWr9
namespace Go.Proofs.YteapfdnjbgonmaaGreatDoor.Wr
open Mem Bk Md Mc R6 Rc Dg Go.ChangeShapes Go.WideShapes Go.ChangeAt Go.RowKit
theorem rkind_any (v : Nat) (w : World) : Calls Tryz.prog 30 #[.int .u8 (v : Int)] w fun e w' => e = .returned (.int .i64 (kd v : Int)) ∧ w' = w := by
 by_cases h : v = 66
 ·subst h
  go_enter Tryz.func30, Tryz.ntmps30
  go_wp2_with fail
  go_ret
  exact ⟨rfl, rfl⟩
 have h1 : ((v : Int) == 66) = false := by simp; omega
 by_cases h2 : v = 68
 ·subst h2
  go_enter Tryz.func30, Tryz.ntmps30
  go_wp2_with fail
  go_ret
  exact ⟨rfl, rfl⟩
 have h3 : ((v : Int) == 68) = false := by simp; omega
 have hk : kd v = 0 := by unfold kd; rw [if_neg h, if_neg h2]
 rw [hk]
 clear h h2 hk
 go_enter Tryz.func30, Tryz.ntmps30
 go_wp2_with fail
 go_ret
 exact ⟨rfl, rfl⟩
set_option maxRecDepth 100000 in
theorem rfill_k (v n k : Nat) (hv : kd v = k) (hk : k = 1 ∨ k = 2) (w : World) : Calls Tryz.prog 15 #[.int .u8 (v : Int), .int .i64 (n : Int)] w fun e w' => e = .returned (.int .i64 (fill (sz k) n : Int)) ∧ w' = w := by
 obtain ⟨r, hr⟩ : ∃ r, r = n % sz k := ⟨_, rfl⟩
 obtain ⟨F, hF⟩ : ∃ F, F = fill (sz k) n := ⟨_, rfl⟩
 have hs := sz_or k
 have hlt : Hid (∀ j, j < F → (r + 2 + j) % sz k ≠ 0) := hid fun j hj => by
  unfold fill at hF
  rw [← hr] at hF
  rcases hs with e | e <;> rw [e] at hF hr ⊢ <;> omega
 have heq : Hid ((r + 2 + F) % sz k = 0) := hid (by
  unfold fill at hF
  rw [← hr] at hF
  rcases hs with e | e <;> rw [e] at hF hr ⊢ <;> omega)
 have hF16 : F ≤ 16 := by
  have := fill_lt (n := n) hs
  omega
 have hr16 : r ≤ 16 := by rcases hs with e | e <;> rw [e] at hr <;> omega
 have hsp := Md.sz_pos k
 have E1 : Hid ((0 : Int) ≤ (n : Int) ∧ (0 : Int) < (sz k : Int) ∧ (n : Int) % (sz k : Int) = (r : Int)) := hid ⟨by omega, by omega, by rw [hr]; rfl⟩
 have k0 : ((k : Int) == 0) = false := by simp; omega
 have n0 : decide ((n : Int) < 0) = false := by simp
 rw [← hF]
 have Hv := hid hv
 have Hk3 : Hid (k = 1 ∨ k = 2 ∨ k = 3) := hid (by omega)
 clear hr hF hs hv hk
 go_enter Tryz.func15, Tryz.ntmps15
 go_wp2_with (first
  | (go_at_call 30; refine (rkind_any v _).mono ?_; rintro x1 w1 ⟨rfl, rfl⟩; rw [Hv.out])
  | (go_at_call 33; refine (rsize_any k Hk3.out _).mono ?_; rintro x1 w1 ⟨rfl, rfl⟩))
 go_loop [6] (fun y => ∃ j : Nat, j ≤ F ∧ y = .int .i64 (j : Int)) (fun y => 20 - (intOf y).toNat)
 case atStart => exact ⟨0, by omega, rfl⟩
 case round =>
  obtain ⟨j, hj, rfl⟩ := hrel
  obtain ⟨q, hq⟩ : ∃ q, q = (r + 2 + j) % sz k := ⟨_, rfl⟩
  have E2 : Hid ((0 : Int) ≤ ((r : Int) + 2 + (j : Int)) ∧ (0 : Int) < (sz k : Int) ∧ ((r : Int) + 2 + (j : Int)) % (sz k : Int) = (q : Int)) := hid ⟨by omega, by omega, by rw [hq]; rfl⟩
  by_cases hjF : j < F
  ·have hq0 : ((q : Int) != 0) = true := by have := hlt.out j hjF; simp; omega
   clear hq
   go_wp2_with (first
    | (with_reducible refine wpl_val rfl _ (exec_remN _ _ _ _ rfl _ _ _ rfl rfl E1.out) ?_)
    | (with_reducible refine wpl_val rfl _ (exec_remN _ _ _ _ rfl _ _ _ rfl rfl E2.out) ?_))
   go_round
   case rel => exact ⟨j + 1, by omega, val_int (by omega)⟩
   case measure => simp [intOf]; omega
  obtain rfl : j = F := by omega
  have hq0 : ((q : Int) != 0) = false := by have := heq.out; simp; omega
  clear hq
  go_wp2_with (first
   | (with_reducible refine wpl_val rfl _ (exec_remN _ _ _ _ rfl _ _ _ rfl rfl E1.out) ?_)
   | (with_reducible refine wpl_val rfl _ (exec_remN _ _ _ _ rfl _ _ _ rfl rfl E2.out) ?_))
  go_ret
  exact ⟨rfl, rfl⟩
theorem rfill_0 (v : Nat) (z : Int) (hv : kd v = 0) (w : World) : Calls Tryz.prog 15 #[.int .u8 (v : Int), .int .i64 z] w fun e w' => e = .returned (.int .i64 0) ∧ w' = w := by
 go_enter Tryz.func15, Tryz.ntmps15
 go_wp2_with (go_at_call 30; refine (rkind_any v _).mono ?_; rintro x1 w1 ⟨rfl, rfl⟩; rw [hv])
 go_ret
 exact ⟨rfl, rfl⟩
theorem rfill_n (v : Nat) (z : Int) (hz : z < 0) (w : World) : Calls Tryz.prog 15 #[.int .u8 (v : Int), .int .i64 z] w fun e w' => e = .returned (.int .i64 0) ∧ w' = w := by
 by_cases hv : kd v = 0
 ·exact rfill_0 v z hv w
 have k0 : ((kd v : Int) == 0) = false := by simp; omega
 clear hv
 go_enter Tryz.func15, Tryz.ntmps15
 go_wp2_with (go_at_call 30; refine (rkind_any v _).mono ?_; rintro x1 w1 ⟨rfl, rfl⟩)
 go_ret
 exact ⟨rfl, rfl⟩
theorem rfill_any (v : Nat) (z : Int) (w : World) : Calls Tryz.prog 15 #[.int .u8 (v : Int), .int .i64 z] w fun e w' => e = .returned (.int .i64 (fillZ v z : Int)) ∧ w' = w := by
 by_cases hz : z < 0
 ·have e : fillZ v z = 0 := by unfold fillZ; rw [if_pos hz]
  rw [e]
  exact rfill_n v z hz w
 obtain ⟨n, rfl⟩ : ∃ n : Nat, z = (n : Int) := ⟨z.toNat, by omega⟩
 by_cases hv : kd v = 0
 ·have e : fillZ v (n : Int) = 0 := by
   unfold fillZ
   unfold kd at hv
   rw [if_neg hz]
   split at hv
   ·omega
   split at hv
   ·omega
   rw [if_neg (by assumption), if_neg (by assumption)]
  rw [e]
  exact rfill_0 v _ hv w
 have hk : kd v = 1 ∨ kd v = 2 := by
  unfold kd at hv ⊢
  split
  ·exact .inr rfl
  split
  ·exact .inl rfl
  rename_i h1 h2
  rw [if_neg h1, if_neg h2] at hv
  exact absurd rfl hv
 rw [fillZ_of rfl hk]
 exact rfill_k v n _ rfl hk w
end Go.Proofs.YteapfdnjbgonmaaGreatDoor.Wr
