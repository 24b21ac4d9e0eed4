/-
  What Check, Through, Mod and Equal of package digit return.
-/
import Derived.Test.YtomeeebiijmnmaaDig2
namespace Go.Proofs.Ytomeeebiijmnmaa.Dg
open Mem Go.ChangeShapes Go.WideShapes Go.ChangeAt Go.RowKit
theorem check_bad (n : Nat) (f : Nat → Nat) (i : Nat) (w : World) (hf : ∀ i, f i < 256) (hn : n ≤ 1000000) (h : BadD 10 n f i) :
    Calls Try.prog 11 #[.string (strF n f)] w fun e w' => e = .returned (.tuple #[.int .u8 0, .iface 45 (.pointer (some ⟨w.heap.size, 0, none⟩))]) ∧ Blk w' w.heap.size 47 #[.int .i64 (i : Int), .iface 41 (.int .i64 16)] ∧ Below w.heap.size w w' := by
  have HR := hid (rej_bad n f 10 0 i w (.inl rfl) hf hn (by omega) h)
  go_enter Try.func11, Try.ntmps11
  go_wp2_with (go_at_call 15; refine HR.out.mono ?_; rintro e w1 ⟨rfl, hb, hB⟩)
  go_ret2
  rw [Nat.zero_add] at hb
  exact ⟨rfl, hb, hB⟩
theorem sum_step {c : Nat → Nat} {k r q : Nat} (hr : r = sumD c k % 10) (hq : q = c k) : (r + q) % 10 = sumD c (k + 1) % 10 := by
  simp only [sumD]
  omega
theorem chk_of {L r : Nat} {f : Nat → Nat} (hr : r = sumD (cd L f) L % 10) : (10 - r) % 10 = chk L f := by unfold chk; rw [hr]
set_option maxRecDepth 100000 in
set_option maxHeartbeats 1000000 in
theorem check_ok (n : Nat) (f : Nat → Nat) (w : World) (hf : ∀ i, f i < 256) (hn : n ≤ 1000000) (h : AllD 10 n f) :
    Calls Try.prog 11 #[.string (strF n f)] w fun e w' => e = .returned (.tuple #[.int .u8 ((dg (chk n f) : Nat) : Int), .nilIface]) ∧ w' = w := by
  have HR := hid (rej_ok n f 10 0 w (.inl rfl) hf hn h)
  have hsz := strF_size n f
  go_enter Try.func11, Try.ntmps11
  go_wp2_with (go_at_call 15; refine HR.out.mono ?_; rintro e w1 ⟨rfl, rfl⟩)
  clear HR
  go_loopw [5, 6, 7, 15] (fun s _ _ y wr => ∃ k r : Nat, k ≤ n ∧ s = .int .i64 (r : Int) ∧ y = .int .i64 (k : Int) ∧ r < 10 ∧ Hid (r = sumD (cd n f) k % 10) ∧ wr = w1) (fun _ _ _ y _ => n - (intOf y).toNat)
  case atStart => exact ⟨0, 0, by omega, rfl, rfl, by omega, hid rfl, rfl⟩
  case round =>
    obtain ⟨k, r, hk, rfl, rfl, hr, HR, rfl⟩ := hrel
    by_cases hlt : k < n
    · have hd := h k hlt
      have hcl := cd_lt (L := n) (i := k) hd
      by_cases hodd : (n - k) % 2 = 1
      · have hoddI : ((n : Int) - (k : Int)) % 2 = 1 := by omega
        have HW := hid (worth_dig (f k) (by omega) (hf k) wr)
        have HD := doub_any (dv (f k)) hd wr
        have e : (if 4 < dv (f k) then 2 * dv (f k) - 9 else 2 * dv (f k)) = cd n f k := by unfold cd; rw [if_pos hodd]
        rw [e] at HD
        have HD := hid HD
        clear e
        have Hq : Hid (∃ q, q = cd n f k) := ⟨_, rfl⟩
        obtain ⟨q, hq⟩ := Hq.out
        rw [← hq] at HD hcl
        have Hq := hid hq
        clear hq
        go_wp2_with (first
          | (with_reducible refine wpl_str rfl 9 _ _ rfl (strF n f) rfl .i64 _ rfl k rfl Try.underlying9 (f k) (byteAt_strF hlt (hf k)) ?_)
          | (go_at_call 16; refine HW.out.mono ?_; rintro e w2 ⟨rfl, rfl⟩)
          | (go_at_call 17; refine HD.out.mono ?_; rintro e w3 ⟨rfl, rfl⟩))
        go_round
        case rel => exact ⟨k + 1, (r + q) % 10, by omega, val_int (by omega), val_int (by omega), by omega, hid (sum_step HR.out Hq.out), by first | rfl | trivial⟩
        case measure => simp [intOf]; omega
      · have hoddI : ¬ ((n : Int) - (k : Int)) % 2 = 1 := by omega
        have HW := worth_dig (f k) (by omega) (hf k) wr
        have e : dv (f k) = cd n f k := by unfold cd; rw [if_neg hodd]
        rw [e] at HW
        have HW := hid HW
        clear e
        have Hq : Hid (∃ q, q = cd n f k) := ⟨_, rfl⟩
        obtain ⟨q, hq⟩ := Hq.out
        rw [← hq] at HW hcl
        have Hq := hid hq
        clear hq
        go_wp2_with (first
          | (with_reducible refine wpl_str rfl 9 _ _ rfl (strF n f) rfl .i64 _ rfl k rfl Try.underlying9 (f k) (byteAt_strF hlt (hf k)) ?_)
          | (go_at_call 16; refine HW.out.mono ?_; rintro e w2 ⟨rfl, rfl⟩))
        go_round
        case rel => exact ⟨k + 1, (r + q) % 10, by omega, val_int (by omega), val_int (by omega), by omega, hid (sum_step HR.out Hq.out), by first | rfl | trivial⟩
        case measure => simp [intOf]; omega
    · obtain rfl : k = n := by omega
      have hc := chk_of HR.out
      have hd1 := digs_at (chk k f) (by have := chk_lt k f; omega)
      unfold digs at hd1
      have hz : (10 - (r : Int)) % 10 = ((chk k f : Nat) : Int) := by omega
      have Hz := hid hz
      clear hc hz
      go_wp2_with (with_reducible refine wpl_str rfl 9 _ _ rfl _ rfl .i64 _ rfl (chk k f) Hz.out Try.underlying9 _ hd1 ?_)
      go_ret2
      exact ⟨rfl, rfl⟩
theorem through_size (n m : Nat) (f t : Nat → Nat) (w : World) (h16 : m ≠ 16) :
    Calls Try.prog 14 #[.string (strF n f), .string (strF m t)] w fun e w' => e = .returned (.tuple #[.string ⟨#[]⟩, .iface 41 (.int .i64 2)]) ∧ w' = w := by
  have hsz := strF_size m t
  have hI : (m : Int) ≠ 16 := by omega
  go_enter Try.func14, Try.ntmps14
  go_wp2
  go_ret2
  exact ⟨rfl, rfl⟩
theorem through_table (n : Nat) (f t : Nat → Nat) (i : Nat) (w : World) (ht : ∀ i, t i < 256) (h : BadD 10 16 t i) :
    Calls Try.prog 14 #[.string (strF n f), .string (strF 16 t)] w fun e w' => e = .returned (.tuple #[.string ⟨#[]⟩, .iface 45 (.pointer (some ⟨w.heap.size, 0, none⟩))]) ∧ Blk w' w.heap.size 47 #[.int .i64 ((16 + i : Nat) : Int), .iface 41 (.int .i64 16)] ∧ Below w.heap.size w w' := by
  have hsz := strF_size 16 t
  have HR := hid (rej_bad 16 t 10 16 i w (.inl rfl) ht (by omega) (by omega) h)
  go_enter Try.func14, Try.ntmps14
  go_wp2_with (go_at_call 15; refine HR.out.mono ?_; rintro e w1 ⟨rfl, hb, hB⟩)
  go_ret2
  exact ⟨rfl, hb, hB⟩
theorem through_bad (n : Nat) (f t : Nat → Nat) (i : Nat) (w : World) (hf : ∀ i, f i < 256) (ht : ∀ i, t i < 256) (hn : n ≤ 1000000) (hT : AllD 10 16 t) (h : BadD 16 n f i) :
    Calls Try.prog 14 #[.string (strF n f), .string (strF 16 t)] w fun e w' => e = .returned (.tuple #[.string ⟨#[]⟩, .iface 45 (.pointer (some ⟨w.heap.size, 0, none⟩))]) ∧ Blk w' w.heap.size 47 #[.int .i64 (i : Int), .iface 41 (.int .i64 16)] ∧ Below w.heap.size w w' := by
  have hsz := strF_size 16 t
  have HT := hid (rej_ok 16 t 10 16 w (.inl rfl) ht (by omega) hT)
  have HR := hid (rej_bad n f 16 0 i w (.inr rfl) hf hn (by omega) h)
  go_enter Try.func14, Try.ntmps14
  go_wp2_with (first
    | (go_at_call 15; refine HT.out.mono ?_; rintro e w1 ⟨rfl, rfl⟩; clear HT)
    | (go_at_call 15; refine HR.out.mono ?_; rintro e w2 ⟨rfl, hb, hB⟩))
  go_ret2
  rw [Nat.zero_add] at hb
  exact ⟨rfl, hb, hB⟩
set_option maxRecDepth 100000 in
set_option maxHeartbeats 1000000 in
theorem through_ok (n : Nat) (f t : Nat → Nat) (w : World) (hf : ∀ i, f i < 256) (ht : ∀ i, t i < 256) (hn : n ≤ 1000000) (hT : AllD 10 16 t) (h : AllD 16 n f) :
    Calls Try.prog 14 #[.string (strF n f), .string (strF 16 t)] w fun e w' => e = .returned (.tuple #[.string (strF n fun i => t (dv (f i))), .nilIface]) ∧ Below w.heap.size w w' := by
  have hsz := strF_size 16 t
  have hsn := strF_size n f
  have HT := hid (rej_ok 16 t 10 16 w (.inl rfl) ht (by omega) hT)
  have HR := hid (rej_ok n f 16 0 w (.inr rfl) hf hn h)
  go_enter Try.func14, Try.ntmps14
  go_wp2_with (first
    | (go_at_call 15; refine HT.out.mono ?_; rintro e w1 ⟨rfl, rfl⟩; clear HT)
    | (go_at_call 15; refine HR.out.mono ?_; rintro e w2 ⟨rfl, rfl⟩; clear HR)
    | (with_reducible refine wpl_make rfl 22 5 _ _ rfl Try.underlying22 info8 _ _ _ _ rfl rfl n rfl rfl (by omega) ?_))
  have hb0 := Blk.fresh w2 5 (row n (b8 fun _ => 0))
  have hB0 : Below w2.heap.size w2 (w2.alloc (.cells (row n (b8 fun _ => 0)) 5)) := (Below.refl _ _).alloc (Nat.le_refl _) _
  go_loopw [9, 29] (fun _ y wr => ∃ (k : Nat) (g : Nat → Nat), k ≤ n ∧ y = .int .i64 (k : Int) ∧ Hid (∀ j, j < k → g j = t (dv (f j))) ∧ Blk wr w2.heap.size 5 (row n (b8 g)) ∧ Below w2.heap.size w2 wr) (fun _ y _ => n - (intOf y).toNat)
  case atStart => exact ⟨0, fun _ => 0, by omega, rfl, hid (fun j hj => by omega), hb0, hB0⟩
  case round =>
    clear hb0 hB0
    obtain ⟨k, g, hk, rfl, HG, hb, hB⟩ := hrel
    by_cases hlt : k < n
    · have hd := h k hlt
      have HW := hid (worth_dig (f k) (by omega) (hf k) wr)
      have hU : t (dv (f k)) = t (dv (f k)) := rfl
      go_wp2_with (first
        | (with_reducible refine wpl_str rfl 9 _ _ rfl (strF n f) rfl .i64 _ rfl k rfl Try.underlying9 (f k) (byteAt_strF hlt (hf k)) ?_)
        | (go_at_call 16; refine HW.out.mono ?_; rintro e w3 ⟨rfl, rfl⟩; clear HW)
        | (with_reducible refine wpl_str rfl 9 _ _ rfl (strF 16 t) rfl .i64 _ rfl (dv (f k)) rfl Try.underlying9 (t (dv (f k))) (byteAt_strF hd (ht _)) ?_)
        | (with_reducible refine wpl_sl rfl 22 _ _ rfl ⟨w2.heap.size, 0, none⟩ n n rfl .i64 _ rfl k rfl 5 Try.underlying22 hlt 1 i8q ?_; rw [Nat.mul_one, add_zero_off])
        | (with_reducible refine wpl_st rfl 5 _ _ rfl ⟨w2.heap.size, k, none⟩ rfl .u8 _ rfl i8q _ (hb.val k hlt) (hb.free k) ?_))
      go_round
      case rel =>
        refine ⟨k + 1, _, by omega, val_int (by omega), hid (fun j hj => ?_), hb.put k _, hB.setCell (by simp) _⟩
        by_cases hjk : j = k
        · subst hjk; rw [upd_same]
        · rw [upd_other _ _ _ _ hjk]; exact HG.out j (by omega)
      case measure => simp [intOf]; omega
    · obtain rfl : k = n := by omega
      have e := row_b8_ext HG.out
      rw [e] at hb
      clear e
      have hcv := conv_blk hn hb
      go_wp2_with fail
      go_ret2
      exact ⟨rfl, hB⟩
theorem mod_size (n m : Nat) (f g : Nat → Nat) (b : Bool) (w : World) (h16 : n ≠ m) :
    Calls Try.prog 10 #[.string (strF n f), .string (strF m g), .bool b] w fun e w' => e = .returned (.tuple #[.string ⟨#[]⟩, .iface 41 (.int .i64 2)]) ∧ w' = w := by
  have hsz := strF_size n f
  have hsm := strF_size m g
  have hI : (n : Int) ≠ (m : Int) := by omega
  go_enter Try.func10, Try.ntmps10
  go_wp2
  go_ret2
  exact ⟨rfl, rfl⟩
theorem mod_bad1 (n : Nat) (f g : Nat → Nat) (b : Bool) (i : Nat) (w : World) (hf : ∀ i, f i < 256) (hn : n ≤ 1000000) (h : BadD 10 n f i) :
    Calls Try.prog 10 #[.string (strF n f), .string (strF n g), .bool b] w fun e w' => e = .returned (.tuple #[.string ⟨#[]⟩, .iface 45 (.pointer (some ⟨w.heap.size, 0, none⟩))]) ∧ Blk w' w.heap.size 47 #[.int .i64 (i : Int), .iface 41 (.int .i64 16)] ∧ Below w.heap.size w w' := by
  have hsz := strF_size n f
  have hsm := strF_size n g
  have HR := hid (rej_bad n f 10 0 i w (.inl rfl) hf hn (by omega) h)
  go_enter Try.func10, Try.ntmps10
  go_wp2_with (go_at_call 15; refine HR.out.mono ?_; rintro e w1 ⟨rfl, hb, hB⟩)
  go_ret2
  rw [Nat.zero_add] at hb
  exact ⟨rfl, hb, hB⟩
theorem mod_bad2 (n : Nat) (f g : Nat → Nat) (b : Bool) (i : Nat) (w : World) (hf : ∀ i, f i < 256) (hg : ∀ i, g i < 256) (hn : n ≤ 1000000) (hA : AllD 10 n f) (h : BadD 10 n g i) :
    Calls Try.prog 10 #[.string (strF n f), .string (strF n g), .bool b] w fun e w' => e = .returned (.tuple #[.string ⟨#[]⟩, .iface 45 (.pointer (some ⟨w.heap.size, 0, none⟩))]) ∧ Blk w' w.heap.size 47 #[.int .i64 (i : Int), .iface 41 (.int .i64 16)] ∧ Below w.heap.size w w' := by
  have hsz := strF_size n f
  have hsm := strF_size n g
  have HT := hid (rej_ok n f 10 0 w (.inl rfl) hf hn hA)
  have HR := hid (rej_bad n g 10 0 i w (.inl rfl) hg hn (by omega) h)
  go_enter Try.func10, Try.ntmps10
  go_wp2_with (first
    | (go_at_call 15; refine HT.out.mono ?_; rintro e w1 ⟨rfl, rfl⟩; clear HT)
    | (go_at_call 15; refine HR.out.mono ?_; rintro e w1 ⟨rfl, hb, hB⟩))
  go_ret2
  rw [Nat.zero_add] at hb
  exact ⟨rfl, hb, hB⟩
set_option maxRecDepth 100000 in
set_option maxHeartbeats 1000000 in
theorem mod_true (n : Nat) (f g : Nat → Nat) (w : World) (hf : ∀ i, f i < 256) (hg : ∀ i, g i < 256) (hn : n ≤ 1000000) (h : AllD 10 n f) (h2 : AllD 10 n g) :
    Calls Try.prog 10 #[.string (strF n f), .string (strF n g), .bool true] w fun e w' => e = .returned (.tuple #[.string (strF n (modF f g true)), .nilIface]) ∧ Below w.heap.size w w' := by
  have hsz := strF_size n f
  have hsn := strF_size n g
  have HT := hid (rej_ok n f 10 0 w (.inl rfl) hf hn h)
  have HR := hid (rej_ok n g 10 0 w (.inl rfl) hg hn h2)
  go_enter Try.func10, Try.ntmps10
  go_wp2_with (first
    | (go_at_call 15; refine HT.out.mono ?_; rintro e w1 ⟨rfl, rfl⟩; clear HT)
    | (go_at_call 15; refine HR.out.mono ?_; rintro e w2 ⟨rfl, rfl⟩; clear HR)
    | (with_reducible refine wpl_make rfl 22 5 _ _ rfl Try.underlying22 info8 _ _ _ _ rfl rfl n rfl rfl (by omega) ?_))
  have hb0 := Blk.fresh w2 5 (row n (b8 fun _ => 0))
  have hB0 : Below w2.heap.size w2 (w2.alloc (.cells (row n (b8 fun _ => 0)) 5)) := (Below.refl _ _).alloc (Nat.le_refl _) _
  go_loopw [11, 12, 34] (fun _ _ y wr => ∃ (k : Nat) (o : Nat → Nat), k ≤ n ∧ y = .int .i64 (k : Int) ∧ Hid (∀ j, j < k → o j = modF f g true j) ∧ Blk wr w2.heap.size 5 (row n (b8 o)) ∧ Below w2.heap.size w2 wr) (fun _ _ y _ => n - (intOf y).toNat)
  case atStart => exact ⟨0, fun _ => 0, by omega, rfl, hid (fun j hj => by omega), hb0, hB0⟩
  case round =>
    clear hb0 hB0
    obtain ⟨k, o, hk, rfl, HG, hb, hB⟩ := hrel
    by_cases hlt : k < n
    · have hd := h k hlt
      have hd2 := h2 k hlt
      have HW := hid (worth_dig (f k) (by omega) (hf k) wr)
      have HV := hid (worth_dig (g k) (by omega) (hg k) wr)
      have HM : Hid (modF f g true k = dg ((dv (f k) + (10 - dv (g k))) % 10)) := hid rfl
      have hq : (dv (f k) + (10 - dv (g k))) % 10 < 16 := by omega
      have Hz : Hid (((dv (f k) : Int) + (10 - (dv (g k) : Int))) % 10 = (((dv (f k) + (10 - dv (g k))) % 10 : Nat) : Int)) := hid (by omega)
      have hdg := digs_at ((dv (f k) + (10 - dv (g k))) % 10) hq
      unfold digs at hdg
      have Hdg := hid hdg
      clear hdg
      go_wp2_with (first
        | (with_reducible refine wpl_str rfl 9 _ _ rfl (strF n g) rfl .i64 _ rfl k rfl Try.underlying9 (g k) (byteAt_strF hlt (hg k)) ?_)
        | (go_at_call 16; refine HV.out.mono ?_; rintro e w3 ⟨rfl, rfl⟩; clear HV)
        | (with_reducible refine wpl_str rfl 9 _ _ rfl (strF n f) rfl .i64 _ rfl k rfl Try.underlying9 (f k) (byteAt_strF hlt (hf k)) ?_)
        | (go_at_call 16; refine HW.out.mono ?_; rintro e w4 ⟨rfl, rfl⟩; clear HW)
        | (with_reducible refine wpl_str rfl 9 _ _ rfl _ rfl .i64 _ rfl ((dv (f k) + (10 - dv (g k))) % 10) Hz.out Try.underlying9 _ Hdg.out ?_)
        | (with_reducible refine wpl_sl rfl 22 _ _ rfl ⟨w2.heap.size, 0, none⟩ n n rfl .i64 _ rfl k rfl 5 Try.underlying22 hlt 1 i8q ?_; rw [Nat.mul_one, add_zero_off])
        | (with_reducible refine wpl_st rfl 5 _ _ rfl ⟨w2.heap.size, k, none⟩ rfl .u8 _ rfl i8q _ (hb.val k hlt) (hb.free k) ?_))
      go_round
      case rel =>
        refine ⟨k + 1, _, by omega, val_int (by omega), hid (fun j hj => ?_), hb.put k _, hB.setCell (by simp) _⟩
        by_cases hjk : j = k
        · subst hjk; rw [upd_same, HM.out]
        · rw [upd_other _ _ _ _ hjk]; exact HG.out j (by omega)
      case measure => simp [intOf]; omega
    · obtain rfl : k = n := by omega
      have e := row_b8_ext HG.out
      rw [e] at hb
      clear e
      have hcv := conv_blk hn hb
      go_wp2_with fail
      go_ret2
      exact ⟨rfl, hB⟩
set_option maxRecDepth 100000 in
set_option maxHeartbeats 1000000 in
theorem mod_false (n : Nat) (f g : Nat → Nat) (w : World) (hf : ∀ i, f i < 256) (hg : ∀ i, g i < 256) (hn : n ≤ 1000000) (h : AllD 10 n f) (h2 : AllD 10 n g) :
    Calls Try.prog 10 #[.string (strF n f), .string (strF n g), .bool false] w fun e w' => e = .returned (.tuple #[.string (strF n (modF f g false)), .nilIface]) ∧ Below w.heap.size w w' := by
  have hsz := strF_size n f
  have hsn := strF_size n g
  have HT := hid (rej_ok n f 10 0 w (.inl rfl) hf hn h)
  have HR := hid (rej_ok n g 10 0 w (.inl rfl) hg hn h2)
  go_enter Try.func10, Try.ntmps10
  go_wp2_with (first
    | (go_at_call 15; refine HT.out.mono ?_; rintro e w1 ⟨rfl, rfl⟩; clear HT)
    | (go_at_call 15; refine HR.out.mono ?_; rintro e w2 ⟨rfl, rfl⟩; clear HR)
    | (with_reducible refine wpl_make rfl 22 5 _ _ rfl Try.underlying22 info8 _ _ _ _ rfl rfl n rfl rfl (by omega) ?_))
  have hb0 := Blk.fresh w2 5 (row n (b8 fun _ => 0))
  have hB0 : Below w2.heap.size w2 (w2.alloc (.cells (row n (b8 fun _ => 0)) 5)) := (Below.refl _ _).alloc (Nat.le_refl _) _
  go_loopw [11, 12, 34] (fun _ _ y wr => ∃ (k : Nat) (o : Nat → Nat), k ≤ n ∧ y = .int .i64 (k : Int) ∧ Hid (∀ j, j < k → o j = modF f g false j) ∧ Blk wr w2.heap.size 5 (row n (b8 o)) ∧ Below w2.heap.size w2 wr) (fun _ _ y _ => n - (intOf y).toNat)
  case atStart => exact ⟨0, fun _ => 0, by omega, rfl, hid (fun j hj => by omega), hb0, hB0⟩
  case round =>
    clear hb0 hB0
    obtain ⟨k, o, hk, rfl, HG, hb, hB⟩ := hrel
    by_cases hlt : k < n
    · have hd := h k hlt
      have hd2 := h2 k hlt
      have HW := hid (worth_dig (f k) (by omega) (hf k) wr)
      have HV := hid (worth_dig (g k) (by omega) (hg k) wr)
      have HM : Hid (modF f g false k = dg ((dv (f k) + dv (g k)) % 10)) := hid rfl
      have hq : (dv (f k) + dv (g k)) % 10 < 16 := by omega
      have Hz : Hid (((dv (f k) : Int) + (dv (g k) : Int)) % 10 = (((dv (f k) + dv (g k)) % 10 : Nat) : Int)) := hid (by omega)
      have hdg := digs_at ((dv (f k) + dv (g k)) % 10) hq
      unfold digs at hdg
      have Hdg := hid hdg
      clear hdg
      go_wp2_with (first
        | (with_reducible refine wpl_str rfl 9 _ _ rfl (strF n g) rfl .i64 _ rfl k rfl Try.underlying9 (g k) (byteAt_strF hlt (hg k)) ?_)
        | (go_at_call 16; refine HV.out.mono ?_; rintro e w3 ⟨rfl, rfl⟩; clear HV)
        | (with_reducible refine wpl_str rfl 9 _ _ rfl (strF n f) rfl .i64 _ rfl k rfl Try.underlying9 (f k) (byteAt_strF hlt (hf k)) ?_)
        | (go_at_call 16; refine HW.out.mono ?_; rintro e w4 ⟨rfl, rfl⟩; clear HW)
        | (with_reducible refine wpl_str rfl 9 _ _ rfl _ rfl .i64 _ rfl ((dv (f k) + dv (g k)) % 10) Hz.out Try.underlying9 _ Hdg.out ?_)
        | (with_reducible refine wpl_sl rfl 22 _ _ rfl ⟨w2.heap.size, 0, none⟩ n n rfl .i64 _ rfl k rfl 5 Try.underlying22 hlt 1 i8q ?_; rw [Nat.mul_one, add_zero_off])
        | (with_reducible refine wpl_st rfl 5 _ _ rfl ⟨w2.heap.size, k, none⟩ rfl .u8 _ rfl i8q _ (hb.val k hlt) (hb.free k) ?_))
      go_round
      case rel =>
        refine ⟨k + 1, _, by omega, val_int (by omega), hid (fun j hj => ?_), hb.put k _, hB.setCell (by simp) _⟩
        by_cases hjk : j = k
        · subst hjk; rw [upd_same, HM.out]
        · rw [upd_other _ _ _ _ hjk]; exact HG.out j (by omega)
      case measure => simp [intOf]; omega
    · obtain rfl : k = n := by omega
      have e := row_b8_ext HG.out
      rw [e] at hb
      clear e
      have hcv := conv_blk hn hb
      go_wp2_with fail
      go_ret2
      exact ⟨rfl, hB⟩
theorem mod_ok (n : Nat) (f g : Nat → Nat) (b : Bool) (w : World) (hf : ∀ i, f i < 256) (hg : ∀ i, g i < 256) (hn : n ≤ 1000000) (h : AllD 10 n f) (h2 : AllD 10 n g) :
    Calls Try.prog 10 #[.string (strF n f), .string (strF n g), .bool b] w fun e w' => e = .returned (.tuple #[.string (strF n (modF f g b)), .nilIface]) ∧ Below w.heap.size w w' := by
  cases b
  · exact mod_false n f g w hf hg hn h h2
  · exact mod_true n f g w hf hg hn h h2
section
variable {P : Program} {o : Oper} {a : Act} {w : World}
theorem exec_xor8 (t : TypeId) (x y : Operand) (rt : TypeId) (ho : o.op = .binOp .xor t x y rt) (n m : Nat) (hn : n < 256) (hm : m < 256) (hx : a.eval x = .int .u8 (n : Int)) (hy : a.eval y = .int .u8 (m : Int)) : (execOp a.eval o).run P w = .ok (.value (.int .u8 ((n ^^^ m : Nat) : Int))) w := by
  have e : Op.intBits BinOp.xor IntKind.u8 (n : Int) (m : Int) = pure (.int .u8 (bits .xor .u8 (n : Int) (m : Int))) := rfl
  have h := u8_xor_nat n m hn hm
  unfold execOp
  simp only [ho, hx, hy, Sem.run_bind]
  simp only [eqGuard, binOp]
  simp only [e, h]
  simp
theorem exec_or8 (t : TypeId) (x y : Operand) (rt : TypeId) (ho : o.op = .binOp .or t x y rt) (n m : Nat) (hn : n < 256) (hm : m < 256) (hx : a.eval x = .int .u8 (n : Int)) (hy : a.eval y = .int .u8 (m : Int)) : (execOp a.eval o).run P w = .ok (.value (.int .u8 ((n ||| m : Nat) : Int))) w := by
  have e : Op.intBits BinOp.or IntKind.u8 (n : Int) (m : Int) = pure (.int .u8 (bits .or .u8 (n : Int) (m : Int))) := rfl
  have h := u8_or_nat n m hn hm
  unfold execOp
  simp only [ho, hx, hy, Sem.run_bind]
  simp only [eqGuard, binOp]
  simp only [e, h]
  simp
end
theorem equal_size (A1 A2 : Option Addr) (L1 L2 c1 c2 : Nat) (w : World) (h : L1 ≠ L2) :
    Calls Try.prog 12 #[.slice A1 L1 c1, .slice A2 L2 c2] w fun e w' => e = .returned (.bool false) ∧ w' = w := by
  have hI : (L1 : Int) ≠ (L2 : Int) := by omega
  go_enter Try.func12, Try.ntmps12
  go_wp2
  go_ret
  exact ⟨rfl, rfl⟩
theorem xo_zero {u x y : Nat} (hu : u < 256) (hx : x < 256) (hy : y < 256) : (u ||| (x ^^^ y) = 0 ↔ u = 0 ∧ x = y) ∧ u ||| (x ^^^ y) < 256 := by
  refine ⟨?_, Nat.or_lt_two_pow (n := 8) hu (Nat.xor_lt_two_pow (n := 8) hx hy)⟩
  rw [Nat.or_eq_zero_iff]
  constructor
  · rintro ⟨h1, h2⟩
    refine ⟨h1, ?_⟩
    have h3 := congrArg (· ^^^ y) h2
    simp only [Nat.xor_assoc, Nat.xor_self, Nat.xor_zero, Nat.zero_xor] at h3
    exact h3
  · rintro ⟨h1, h2⟩
    exact ⟨h1, by rw [h2, Nat.xor_self]⟩
set_option maxRecDepth 100000 in
set_option maxHeartbeats 1000000 in
theorem equal_any (A1 A2 : Option Addr) (L c1 c2 : Nat) (f g : Nat → Nat) (w : World) (hL : L ≤ 100000) (hf : ∀ i, i < L → f i < 256) (hg : ∀ i, i < L → g i < 256) (hR : Reads w w.heap.size A1 L f) (hR2 : Reads w w.heap.size A2 L g) :
    Calls Try.prog 12 #[.slice A1 L c1, .slice A2 L c2] w fun e w' => e = .returned (.bool (eqB L f g)) ∧ Below w.heap.size w w' := by
  have HR := hid hR
  have HR2 := hid hR2
  have Hf := hid hf
  have Hg := hid hg
  clear hR hR2 hf hg
  go_enter Try.func12, Try.ntmps12
  go_wp2
  go_loopw [5, 6, 14] (fun s _ y wr => ∃ k u : Nat, k ≤ L ∧ s = .int .u8 (u : Int) ∧ y = .int .i64 (k : Int) ∧ u < 256 ∧ Hid (u = 0 ↔ ∀ j, j < k → f j = g j) ∧ Below w.heap.size w wr) (fun _ _ y _ => L - (intOf y).toNat)
  case atStart => exact ⟨0, 0, by omega, rfl, rfl, by omega, hid ⟨fun _ j hj => by omega, fun _ => rfl⟩, Below.refl _ _⟩
  case round =>
    obtain ⟨k, u, hk, rfl, rfl, hu, HU, hB⟩ := hrel
    by_cases hlt : k < L
    · obtain ⟨a1, rfl, ha1, hc1⟩ := HR.out (by omega)
      obtain ⟨a2, rfl, ha2, hc2⟩ := HR2.out (by omega)
      have hx := Hf.out k hlt
      have hy := Hg.out k hlt
      have hd1 : wr.drew.cell? (a1.add k) = some (.int .u8 ((f k : Nat) : Int)) := (hB.drew.cell (p := a1.add k) (by rw [add_block]; exact ha1)).trans (hc1 _ hlt)
      have hd2 : wr.drew.cell? (a2.add k) = some (.int .u8 ((g k : Nat) : Int)) := (hB.drew.cell (p := a2.add k) (by rw [add_block]; exact ha2)).trans (hc2 _ hlt)
      have HZ := hid (xo_zero hu hx hy)
      have hxy : f k ^^^ g k < 256 := Nat.xor_lt_two_pow (n := 8) hx hy
      clear hc1 hc2
      go_wp2_with fail
      refine wp_region_still_tail 11 (by kernel_rfl) (by kernel_rfl) ?_
      simp only [List.take_succ_cons, List.take_zero, List.drop_succ_cons, List.drop_zero]
      change wpStill _ _ wr.drew (fun a' => wpList _ _ _ _ a' wr.drew) _ _
      have hB1 := hB.drew
      clear hB
      generalize wr.drew = w2 at *
      repeat (first
        | (with_reducible refine wps_sl rfl 22 _ _ rfl a1 L c1 rfl .i64 _ rfl k rfl 5 Try.underlying22 hlt 1 i8q ?_; rw [Nat.mul_one])
        | (with_reducible refine wps_sl rfl 22 _ _ rfl a2 L c2 rfl .i64 _ rfl k rfl 5 Try.underlying22 hlt 1 i8q ?_; rw [Nat.mul_one])
        | (with_reducible refine wps_ld rfl 5 _ rfl _ rfl .u8 Try.underlying5 _ hd1 ?_)
        | (with_reducible refine wps_ld rfl 5 _ rfl _ rfl .u8 Try.underlying5 _ hd2 ?_)
        | (with_reducible refine wps_val rfl _ (exec_xor8 _ _ _ _ rfl (f k) (g k) hx hy rfl rfl) ?_)
        | (with_reducible refine wps_val rfl _ (exec_or8 _ _ _ _ rfl u (f k ^^^ g k) hu hxy rfl rfl) ?_)
        | still_step)
      refine wpStill_nil ?_
      go_wp2_with fail
      go_round
      case rel =>
        refine ⟨k + 1, u ||| (f k ^^^ g k), by omega, rfl, val_int (by omega), HZ.out.2, hid ?_, hB1⟩
        rw [HZ.out.1, HU.out]
        constructor
        · rintro ⟨h1, h2⟩ j hj
          rcases Nat.lt_or_ge j k with h | h
          · exact h1 j h
          · obtain rfl : j = k := by omega
            exact h2
        · intro h
          exact ⟨fun j hj => h j (by omega), h k (by omega)⟩
      case measure => simp [intOf]; omega
    · obtain rfl : k = L := by omega
      have hr : ((u : Int) == 0) = eqB k f g := by
        rw [Bool.eq_iff_iff, eqB_iff, ← HU.out]
        simp
      have Hr := hid hr
      clear hr
      go_wp2_with fail
      go_ret
      rw [← Hr.out]
      exact ⟨by simp, hB⟩
end Go.Proofs.Ytomeeebiijmnmaa.Dg
