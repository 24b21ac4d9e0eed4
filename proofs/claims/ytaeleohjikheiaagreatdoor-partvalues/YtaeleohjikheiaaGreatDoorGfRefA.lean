/-
  What the document's own functions of layer 1 return, of whatever bytes: contracts over the loaded program.
-/
import Derived.Test.YtaeleohjikheiaaGreatDoorGfWalks
import Derived.Test.YtaeleohjikheiaaGreatDoorBits
namespace Go.Proofs.YtaeleohjikheiaaGreatDoor.Gf
open Go.ChangeShapes Go.WideShapes Go.ChangeAt Go.RowKit

theorem two_pow_cast (n : Nat) : (2 : Int) ^ n = ((2 ^ n : Nat) : Int) := by simp
theorem xor_pow (P n : Nat) (hP : P < 32768) (hn : n < 15) : bits .xor .i64 (P : Int) (wrap64 (2 ^ n)) = ((P ^^^ 2 ^ n : Nat) : Int) := by
  have h : 2 ^ n < 2 ^ 15 := Nat.pow_lt_pow_right (by omega) hn
  rw [two_pow_cast, wrap64_nat _ (by omega), i64_xor_nat _ _ (by omega) (by omega)]
theorem xor_283 (P n : Nat) (hP : P < 32768) (hn : n ≤ 6) : bits .xor .i64 (P : Int) (wrap64 (283 * 2 ^ n)) = ((P ^^^ 283 * 2 ^ n : Nat) : Int) := by
  have h : 2 ^ n ≤ 2 ^ 6 := Nat.pow_le_pow_right (by omega) hn
  have e : (283 : Int) * 2 ^ n = ((283 * 2 ^ n : Nat) : Int) := by simp
  rw [e, wrap64_nat _ (by omega), i64_xor_nat _ _ (by omega) (by omega)]

set_option maxHeartbeats 1000000 in
theorem refMul_any (a b : Nat) (ha : a < 256) (hb : b < 256) (w : World) :
    Calls Tryz.prog 94 #[.int .u8 a, .int .u8 b] w fun e w' => e = .returned (.int .u8 (refMul a b : Nat)) ∧ w = w' := by
  go_enter Tryz.func94, Tryz.ntmps94
  go_wp2
  go_loop [5, 6, 7] (fun p i _ => ∃ k P : Nat, k ≤ 8 ∧ P < 32768 ∧ Hid (rout a b k = P) ∧ i = .int .i64 k ∧ p = .int .i64 P) (fun _ i _ => 8 - (intOf i).toNat)
  case atStart => exact ⟨0, 0, by omega, by omega, hid rfl, rfl, rfl⟩
  case round =>
    obtain ⟨k, P, hk, hP, H, rfl, rfl⟩ := hrel
    by_cases hlt : k < 8
    · go_wp2
      go_loop [5, 7] (fun p i => ∃ k2 P2 : Nat, k2 ≤ 8 ∧ P2 < 32768 ∧ Hid (P ^^^ rin a b k k2 = P2) ∧ i = .int .i64 k2 ∧ p = .int .i64 P2) (fun _ i => 8 - (intOf i).toNat)
      case atStart => exact ⟨0, P, by omega, by omega, hid (by show P ^^^ 0 = P; rw [Nat.xor_zero]), rfl, rfl⟩
      case round =>
        obtain ⟨k2, P2, hk2, hP2, H2, rfl, rfl⟩ := hrel
        have hx : P ^^^ rin a b k (k2 + 1) < 32768 ∨ k2 = 8 := by
          by_cases e : k2 = 8
          · exact Or.inr e
          · exact Or.inl (Nat.xor_lt_two_pow (n := 15) hP (rin_lt a b k (k2 + 1) hlt (by omega)))
        by_cases hlt2 : k2 < 8
        · have hx' : P ^^^ rin a b k (k2 + 1) < 32768 := hx.resolve_right (by omega)
          clear hx
          have step : P ^^^ rin a b k (k2 + 1) = P2 ^^^ sel (a.testBit k && b.testBit k2) (2 ^ (k + k2)) := by
            show P ^^^ (rin a b k k2 ^^^ _) = _
            rw [← Nat.xor_assoc, H2.out]
          have S := hid step
          clear step
          have ta := i64_bit a k (by omega)
          have tb := i64_bit b k2 (by omega)
          cases ca : a.testBit k
          · rw [ca] at ta
            have Ca := hid ca
            clear ca tb
            go_wp2
            refine ⟨⟨k2 + 1, P2, by omega, hP2, hid ?_, val_int (by omega), rfl⟩, by simp [intOf]; omega⟩
            rw [S.out, Ca.out]
            simp [sel]
          · rw [ca] at ta
            have Ca := hid ca
            clear ca
            cases cb : b.testBit k2
            · rw [cb] at tb
              have Cb := hid cb
              clear cb
              go_wp2
              refine ⟨⟨k2 + 1, P2, by omega, hP2, hid ?_, val_int (by omega), rfl⟩, by simp [intOf]; omega⟩
              rw [S.out, Cb.out]
              simp [sel]
            · rw [cb] at tb
              have Cb := hid cb
              clear cb
              go_wp2
              refine ⟨⟨k2 + 1, P2 ^^^ 2 ^ (k + k2), by omega, ?_, hid ?_, val_int (by omega), val_int (xor_pow P2 _ hP2 (by omega))⟩, by simp [intOf]; omega⟩
              · rw [S.out, Ca.out, Cb.out] at hx'
                exact hx'
              · rw [S.out, Ca.out, Cb.out]
                rfl
        · clear hx
          go_wp2
          obtain rfl : k2 = 8 := by omega
          refine ⟨⟨k + 1, P2, by omega, hP2, hid ?_, val_int (by omega), rfl⟩, by simp [intOf]; omega⟩
          show rout a b k ^^^ rin a b k 8 = P2
          rw [H.out, H2.out]
    · obtain rfl : k = 8 := by omega
      go_wp2
      go_loop [5, 8] (fun p i => ∃ j Q : Nat, j ≤ 7 ∧ Q < 32768 ∧ Hid (red P j = Q) ∧ i = .int .i64 (14 - (j : Int)) ∧ p = .int .i64 Q) (fun _ i => (intOf i).toNat)
      case atStart => exact ⟨0, P, by omega, hP, hid rfl, rfl, rfl⟩
      case round =>
        obtain ⟨j, Q, hj, hQ, HQ, rfl, rfl⟩ := hrel
        by_cases hlt2 : j < 7
        · have hx := red_lt P (j + 1) hP (by omega)
          have step : red P (j + 1) = Q ^^^ sel (Q.testBit (14 - j)) (283 * 2 ^ (6 - j)) := by
            show red P j ^^^ sel ((red P j).testBit (14 - j)) _ = _
            rw [HQ.out]
          have S := hid step
          clear step
          have t := i64_bit Q (14 - j) (by omega)
          cases c : Q.testBit (14 - j)
          · rw [c] at t
            have C := hid c
            clear c
            go_wp2
            refine ⟨⟨j + 1, Q, by omega, hQ, hid ?_, val_int (by omega), rfl⟩, by simp [intOf]; omega⟩
            rw [S.out, C.out]
            simp [sel]
          · rw [c] at t
            have C := hid c
            clear c
            go_wp2
            refine ⟨⟨j + 1, Q ^^^ 283 * 2 ^ (6 - j), by omega, ?_, hid ?_, val_int (by omega), val_int ?_⟩, by simp [intOf]; omega⟩
            · rw [S.out, C.out] at hx
              exact hx
            · rw [S.out, C.out]
              rfl
            · rw [show 14 - j - 8 = 6 - j from by omega]
              exact xor_283 Q _ hQ (by omega)
        · obtain rfl : j = 7 := by omega
          go_wp2
          go_ret
          refine ⟨ret_int ?_, rfl⟩
          show (Q : Int) % 256 = ((red (rout a b 8) 7 % 256 : Nat) : Int)
          rw [H.out, HQ.out]
          simp

theorem shr_cast (b n : Nat) : (b : Int) / 2 ^ n = ((b / 2 ^ n : Nat) : Int) := by simp
set_option maxHeartbeats 1000000 in
theorem affine_any (b : Nat) (hb : b < 256) (w : World) :
    Calls Tryz.prog 106 #[.int .u8 b] w fun e w' => e = .returned (.int .u8 (aff b : Nat)) ∧ w = w' := by
  go_enter Tryz.func106, Tryz.ntmps106
  go_wp2
  go_loop [4, 5, 6, 7] (fun o i _ _ => ∃ k O : Nat, k ≤ 8 ∧ O < 256 ∧ Hid (affTo b k = O) ∧ i = .int .i64 k ∧ o = .int .i64 O) (fun _ i _ _ => 8 - (intOf i).toNat)
  case atStart => exact ⟨0, 0, by omega, by omega, hid rfl, rfl, rfl⟩
  case round =>
    obtain ⟨k, O, hk, hO, H, rfl, rfl⟩ := hrel
    by_cases hlt : k < 8
    · go_wp2
      go_loop [6, 7] (fun s i => ∃ m S : Nat, m ≤ 5 ∧ S < 256 ∧ Hid (affIn b k m = S) ∧ i = .int .i64 (4 + (m : Int)) ∧ s = .int .i64 S) (fun _ i => 9 - (intOf i).toNat)
      case atStart => exact ⟨0, 99 / 2 ^ k, by omega, affIn_lt b k 0 hb, hid rfl, rfl, val_int (shr_cast 99 k)⟩
      case round =>
        obtain ⟨m, S, hm, hS, HS, rfl, rfl⟩ := hrel
        by_cases hlt2 : m < 5
        · have hq : b / 2 ^ ((k + (4 + m)) % 8) < 256 := Nat.lt_of_le_of_lt (Nat.div_le_self _ _) hb
          go_wp2
          refine ⟨⟨m + 1, S ^^^ b / 2 ^ ((k + (4 + m)) % 8), by omega, xor_lt hS hq, hid ?_, val_int (by omega), val_int ?_⟩, by simp [intOf]; omega⟩
          · show affIn b k m ^^^ _ = _
            rw [HS.out]
          · rw [shr_cast, i64_xor_nat _ _ (by omega) (by omega)]
        · obtain rfl : m = 5 := by omega
          have hO' := affTo_lt b (k + 1) (by omega)
          go_wp2
          refine ⟨⟨k + 1, O ||| S % 2 * 2 ^ k, by omega, ?_, hid ?_, val_int (by omega), val_int ?_⟩, by simp [intOf]; omega⟩
          · show O ||| S % 2 * 2 ^ k < 256
            rw [← H.out, ← HS.out]
            exact hO'
          · show affTo b k ||| affIn b k 5 % 2 * 2 ^ k = _
            rw [H.out, HS.out]
          · have h2 : 2 ^ k ≤ 2 ^ 7 := Nat.pow_le_pow_right (by omega) (by omega)
            have h1 : S % 2 * 2 ^ k ≤ 1 * 2 ^ k := Nat.mul_le_mul_right _ (by omega)
            have e : bits BinOp.and IntKind.i64 (S : Int) 1 * 2 ^ k = ((S % 2 * 2 ^ k : Nat) : Int) := by
              rw [i64_and_one S (by omega)]
              simp
            rw [e, wrap64_nat _ (by omega), i64_or_nat _ _ (by omega) (by omega)]
    · obtain rfl : k = 8 := by omega
      go_wp2
      go_ret
      exact ⟨ret_int (by show (O : Int) = ((affTo b 8 : Nat) : Int); rw [H.out]), rfl⟩
end Go.Proofs.YtaeleohjikheiaaGreatDoor.Gf
