/-
  What package part's small functions return: isKind, sizeFits, refuse, isEven, Odd, Right.
-/
import Derived.Test.YtaeleohjikheiaaGreatDoorPartMath
namespace Go.Proofs.YtaeleohjikheiaaGreatDoor.Pt
open Mem Bk Md Go.ChangeShapes Go.WideShapes Go.ChangeAt Go.RowKit
theorem iskind_yes (k : Nat) (hk : k = 1 ∨ k = 2) (w : World) : Calls Tryz.prog 67 #[.int .i64 (k : Int)] w fun e w' => e = .returned (.bool true) ∧ w' = w := by
  rcases hk with rfl | rfl
  · go_enter Tryz.func67, Tryz.ntmps67
    go_wp2_with fail
    go_ret
    exact ⟨rfl, rfl⟩
  · go_enter Tryz.func67, Tryz.ntmps67
    go_wp2_with fail
    go_ret
    exact ⟨rfl, rfl⟩
theorem iskind_no (z : Int) (h1 : z ≠ 1) (h2 : z ≠ 2) (w : World) : Calls Tryz.prog 67 #[.int .i64 z] w fun e w' => e = .returned (.bool false) ∧ w' = w := by
  have e1 : (z == 1) = false := by simp; exact h1
  have e2 : (z == 2) = false := by simp; exact h2
  go_enter Tryz.func67, Tryz.ntmps67
  go_wp2_with fail
  go_ret
  exact ⟨rfl, rfl⟩
theorem sfits_any (k : Nat) (hk : k = 1 ∨ k = 2) (n : Nat) (hn : n ≤ 100000) (w : World) : Calls Tryz.prog 85 #[.int .i64 (k : Int), .int .i64 (n : Int)] w fun e w' => e = .returned (.bool (decide (fit9 k n))) ∧ w' = w := by
  have hc : n = 16 ∨ n = 24 ∨ n = 32 ∨ (n ≠ 16 ∧ n ≠ 24 ∧ n ≠ 32) := by omega
  rcases hk with rfl | rfl
  · rcases hc with rfl | rfl | rfl | ⟨h1, h2, h3⟩
    · go_enter Tryz.func85, Tryz.ntmps85
      go_wp2_with fail
      go_ret
      exact ⟨rfl, rfl⟩
    · go_enter Tryz.func85, Tryz.ntmps85
      go_wp2_with fail
      go_ret
      exact ⟨rfl, rfl⟩
    · go_enter Tryz.func85, Tryz.ntmps85
      go_wp2_with fail
      go_ret
      exact ⟨rfl, rfl⟩
    · have e1 : ((n : Int) == 16) = false := by simp; omega
      have e2 : ((n : Int) == 24) = false := by simp; omega
      have e3 : ((n : Int) == 32) = false := by simp; omega
      have e : decide (fit9 1 n) = false := by unfold fit9; simp; omega
      rw [e]
      clear e h1 h2 h3
      go_enter Tryz.func85, Tryz.ntmps85
      go_wp2_with fail
      go_ret
      exact ⟨rfl, rfl⟩
  · rcases hc with rfl | rfl | rfl | ⟨h1, h2, h3⟩
    · go_enter Tryz.func85, Tryz.ntmps85
      go_wp2_with fail
      go_ret
      exact ⟨rfl, rfl⟩
    · go_enter Tryz.func85, Tryz.ntmps85
      go_wp2_with fail
      go_ret
      exact ⟨rfl, rfl⟩
    · go_enter Tryz.func85, Tryz.ntmps85
      go_wp2_with fail
      go_ret
      exact ⟨rfl, rfl⟩
    · have e1 : ((n : Int) == 16) = false := by simp; omega
      have e2 : ((n : Int) == 24) = false := by simp; omega
      have e : decide (fit9 2 n) = false := by unfold fit9; simp; omega
      rw [e]
      clear e h1 h2 h3
      go_enter Tryz.func85, Tryz.ntmps85
      go_wp2_with fail
      go_ret
      exact ⟨rfl, rfl⟩
theorem refuse_kind (z : Int) (h1 : z ≠ 1) (h2 : z ≠ 2) (A : Option Addr) (L c : Nat) (w : World) : Calls Tryz.prog 61 #[.int .i64 z, .slice A L c] w fun e w' => e = .returned (.iface 71 (.int .i64 1)) ∧ w' = w := by
  go_enter Tryz.func61, Tryz.ntmps61
  go_wp2_with (go_at_call 67; refine (iskind_no z h1 h2 _).mono ?_; rintro e w1 ⟨rfl, rfl⟩)
  go_ret
  exact ⟨rfl, rfl⟩
theorem refuse_size (k : Nat) (hk : k = 1 ∨ k = 2) (A : Option Addr) (L c : Nat) (hL : L ≤ 100000) (hf : ¬ fit9 k L) (w : World) : Calls Tryz.prog 61 #[.int .i64 (k : Int), .slice A L c] w fun e w' => e = .returned (.iface 71 (.int .i64 2)) ∧ w' = w := by
  have hd : decide (fit9 k L) = false := by simpa using hf
  have HS := hid (sfits_any k hk L hL)
  rw [hd] at HS
  clear hd hf
  go_enter Tryz.func61, Tryz.ntmps61
  go_wp2_with (first
    | (go_at_call 67; refine (iskind_yes k hk _).mono ?_; rintro e w1 ⟨rfl, rfl⟩)
    | (go_at_call 85; refine (HS.out _).mono ?_; rintro e w1 ⟨rfl, rfl⟩))
  go_ret
  exact ⟨rfl, rfl⟩
theorem refuse_ok (k : Nat) (A : Option Addr) (L c : Nat) (hL : L ≤ 100000) (hf : fit9 k L) (w : World) : Calls Tryz.prog 61 #[.int .i64 (k : Int), .slice A L c] w fun e w' => e = .returned .nilIface ∧ w' = w := by
  have hk := hf.1
  have hd : decide (fit9 k L) = true := by simpa using hf
  have HS := hid (sfits_any k hk L hL)
  rw [hd] at HS
  clear hd hf
  go_enter Tryz.func61, Tryz.ntmps61
  go_wp2_with (first
    | (go_at_call 67; refine (iskind_yes k hk _).mono ?_; rintro e w1 ⟨rfl, rfl⟩)
    | (go_at_call 85; refine (HS.out _).mono ?_; rintro e w1 ⟨rfl, rfl⟩))
  go_ret
  exact ⟨rfl, rfl⟩
def pops : ByteArray := { data := (([0, 1, 1, 2, 1, 2, 2, 3, 1, 2, 2, 3, 2, 3, 3, 4, 1, 2, 2, 3, 2, 3, 3, 4, 2, 3, 3, 4, 3, 4, 4, 5, 1, 2, 2, 3, 2, 3, 3, 4, 2, 3, 3, 4, 3, 4, 4, 5, 2, 3, 3, 4, 3, 4, 4, 5, 3, 4, 4, 5, 4, 5, 5, 6].append [1, 2, 2, 3, 2, 3, 3, 4, 2, 3, 3, 4, 3, 4, 4, 5, 2, 3, 3, 4, 3, 4, 4, 5, 3, 4, 4, 5, 4, 5, 5, 6, 2, 3, 3, 4, 3, 4, 4, 5, 3, 4, 4, 5, 4, 5, 5, 6, 3, 4, 4, 5, 4, 5, 5, 6, 4, 5, 5, 6, 5, 6, 6, 7]).append ([1, 2, 2, 3, 2, 3, 3, 4, 2, 3, 3, 4, 3, 4, 4, 5, 2, 3, 3, 4, 3, 4, 4, 5, 3, 4, 4, 5, 4, 5, 5, 6, 2, 3, 3, 4, 3, 4, 4, 5, 3, 4, 4, 5, 4, 5, 5, 6, 3, 4, 4, 5, 4, 5, 5, 6, 4, 5, 5, 6, 5, 6, 6, 7].append [2, 3, 3, 4, 3, 4, 4, 5, 3, 4, 4, 5, 4, 5, 5, 6, 3, 4, 4, 5, 4, 5, 5, 6, 4, 5, 5, 6, 5, 6, 6, 7, 3, 4, 4, 5, 4, 5, 5, 6, 4, 5, 5, 6, 5, 6, 6, 7, 4, 5, 5, 6, 5, 6, 6, 7, 5, 6, 6, 7, 6, 7, 7, 8])).toArray }
theorem pops_at : ∀ b, b < 256 → byteAt pops b = some (pc b) := by decide +kernel
theorem ones_any (b : Nat) (hb : b < 256) (w : World) : Calls Tryz.prog 86 #[.int .u8 (b : Int)] w fun e w' => e = .returned (.int .i64 ((pc b : Nat) : Int)) ∧ w' = w := by
  have hp := pops_at b hb
  have hle := pc_le b
  go_enter Tryz.func86, Tryz.ntmps86
  go_wp2_with (refine wpl_val rfl _ (exec_str 9 _ _ rfl pops rfl .u8 _ rfl b rfl Tryz.underlying9 _ hp) ?_)
  go_ret
  exact ⟨rfl, rfl⟩
theorem iseven_yes (b : Nat) (hb : b < 256) (h : pc b % 2 = 0) (w : World) : Calls Tryz.prog 63 #[.int .u8 (b : Int)] w fun e w' => e = .returned (.bool true) ∧ w' = w := by
  have hle := pc_le b
  have hm : (((pc b : Nat) : Int) % 2 == 0) = true := by simp; omega
  have HO := hid (ones_any b hb w)
  generalize pc b = z at *
  clear h
  go_enter Tryz.func63, Tryz.ntmps63
  go_wp2_with (go_at_call 86; refine HO.out.mono ?_; rintro e w1 ⟨rfl, rfl⟩)
  go_ret
  exact ⟨rfl, rfl⟩
theorem iseven_no (b : Nat) (hb : b < 256) (h : pc b % 2 = 1) (w : World) : Calls Tryz.prog 63 #[.int .u8 (b : Int)] w fun e w' => e = .returned (.bool false) ∧ w' = w := by
  have hle := pc_le b
  have hm : (((pc b : Nat) : Int) % 2 == 0) = false := by simp; omega
  have HO := hid (ones_any b hb w)
  generalize pc b = z at *
  clear h
  go_enter Tryz.func63, Tryz.ntmps63
  go_wp2_with (go_at_call 86; refine HO.out.mono ?_; rintro e w1 ⟨rfl, rfl⟩)
  go_ret
  exact ⟨rfl, rfl⟩
set_option maxRecDepth 100000 in
set_option maxHeartbeats 1000000 in
/-- Odd -/
theorem odd_any (A : Option Addr) (L c : Nat) (f : Nat → Nat) (w : World) (hL : L ≤ 1000) (hf : ∀ i, i < L → f i < 256) (hR : Reads w w.heap.size A L f) :
    Calls Tryz.prog 30 #[.slice A L c] w fun e w' => e = .returned (.slice (some ⟨w.heap.size, 0, none⟩) L L) ∧ Blk w' w.heap.size 5 (row L (b8 (odF f))) ∧ Below w.heap.size w w' := by
  have HR := hid hR
  have Hf := hid hf
  clear hR hf
  go_enter Tryz.func30, Tryz.ntmps30
  go_wp2_with (with_reducible refine wpl_make rfl 22 5 _ _ rfl Tryz.underlying22 info8 _ _ _ _ rfl rfl L rfl rfl (by omega) ?_)
  go_loopw [4, 5, 11] (fun _ _ i wr => ∃ (k : Nat) (m : Nat → Nat), k ≤ L ∧ i = .int .i64 k ∧ Hid (∀ j, m j = if j < k then odF f j else 0) ∧ Blk wr w.heap.size 5 (row L (b8 m)) ∧ Below w.heap.size w wr) (fun _ _ i _ => L - (intOf i).toNat)
  case atStart => exact ⟨0, fun _ => 0, by omega, rfl, hid (by simp), Blk.fresh _ _ _, (Below.refl _ _).alloc (Nat.le_refl _) _⟩
  case round =>
    obtain ⟨k, m, hk, rfl, HM, hb, hB⟩ := hrel
    by_cases hlt : k < L
    · have hfk := Hf.out k hlt
      obtain ⟨ad, rfl, hbl, hcs⟩ := HR.out (by omega)
      have hc := (hB.cell (p := ad.add k) (by rw [add_block]; exact hbl)).trans (hcs k hlt)
      have hv1 := hb.val k hlt
      have hv2 := hb.free k
      clear hcs
      by_cases he : pc (f k) % 2 = 0
      · have hod : Hid (odF f k = f k ^^^ 1) := hid (by unfold odF od; rw [if_pos he])
        have HE := hid (iseven_yes (f k) hfk he)
        clear he
        go_wp2_with (first
          | (with_reducible refine wpl_sl1 rfl 22 _ _ rfl ad L c rfl .i64 _ rfl k rfl 5 Tryz.underlying22 hlt i8q ?_)
          | (with_reducible refine wpl_slb rfl 22 _ _ rfl w.heap.size L L rfl .i64 _ rfl k rfl 5 Tryz.underlying22 hlt i8q ?_)
          | (with_reducible refine wpl_ld rfl 5 _ rfl _ rfl .u8 Tryz.underlying5 _ hc ?_)
          | (go_at_call 63; refine (HE.out _).mono ?_; rintro e w1 ⟨rfl, rfl⟩)
          | (with_reducible refine wpl_st rfl 5 _ _ rfl _ rfl .u8 _ rfl i8q _ hv1 hv2 ?_))
        go_round
        case rel =>
          rw [show (1 : Int) = ((1 : Nat) : Int) from rfl, u8_xor_nat _ 1 hfk (by omega), ← hod.out]
          exact ⟨k + 1, upd m k (odF f k), by omega, val_int (by omega), hid (fill_step (F := odF f) (f := fun _ => 0) HM.out), hb.put k _, hB.setCell (by simp) _⟩
        case measure => simp [intOf]; omega
      · have hod : Hid (odF f k = f k) := hid (by unfold odF od; rw [if_neg he])
        have HE := hid (iseven_no (f k) hfk (by omega))
        clear he
        go_wp2_with (first
          | (with_reducible refine wpl_sl1 rfl 22 _ _ rfl ad L c rfl .i64 _ rfl k rfl 5 Tryz.underlying22 hlt i8q ?_)
          | (with_reducible refine wpl_slb rfl 22 _ _ rfl w.heap.size L L rfl .i64 _ rfl k rfl 5 Tryz.underlying22 hlt i8q ?_)
          | (with_reducible refine wpl_ld rfl 5 _ rfl _ rfl .u8 Tryz.underlying5 _ hc ?_)
          | (go_at_call 63; refine (HE.out _).mono ?_; rintro e w1 ⟨rfl, rfl⟩)
          | (with_reducible refine wpl_st rfl 5 _ _ rfl _ rfl .u8 _ rfl i8q _ hv1 hv2 ?_))
        go_round
        case rel =>
          rw [← hod.out]
          exact ⟨k + 1, upd m k (odF f k), by omega, val_int (by omega), hid (fill_step (F := odF f) (f := fun _ => 0) HM.out), hb.put k _, hB.setCell (by simp) _⟩
        case measure => simp [intOf]; omega
    · go_wp2_with fail
      go_ret
      have hm : row L (b8 m) = row L (b8 (odF f)) := row_b8_ext (fill_end (f := fun _ => 0) HM.out (by omega))
      exact ⟨rfl, hm ▸ hb, hB⟩
set_option maxRecDepth 100000 in
set_option maxHeartbeats 1000000 in
/-- where the first even byte is -/
theorem index_at (A : Option Addr) (L c : Nat) (f : Nat → Nat) (i : Nat) (w : World) (hL : L ≤ 1000) (hf : ∀ i, i < L → f i < 256) (hR : Reads w w.heap.size A L f) (h : EvenAt L f i) :
    Calls Tryz.prog 62 #[.slice A L c, .func (.func 63) #[] #[]] w fun e w' => e = .returned (.int .i64 (i : Int)) ∧ w' = w := by
  have HR := hid hR
  have Hf := hid hf
  have H := hid h
  have hil := h.1
  clear hR hf h
  go_enter Tryz.func62, Tryz.ntmps62
  go_wp2_with fail
  go_loopw [5, 8] (fun _ y wr => ∃ k : Nat, k ≤ i ∧ y = .int .i64 (k : Int) ∧ wr = w) (fun _ y _ => L - (intOf y).toNat)
  case atStart => exact ⟨0, by omega, rfl, rfl⟩
  case round =>
    obtain ⟨k, hk, rfl, rfl⟩ := hrel
    have hlt : k < L := by omega
    have hfk := Hf.out k hlt
    obtain ⟨ad, rfl, hbl, hcs⟩ := HR.out (by omega)
    have hc := hcs k hlt
    clear hcs
    by_cases he : k = i
    · subst he
      have HE := hid (iseven_yes (f k) hfk H.out.2.1)
      go_wp2_with (first
        | (with_reducible refine wpl_sl1 rfl 22 _ _ rfl ad L c rfl .i64 _ rfl k rfl 5 Tryz.underlying22 hlt i8q ?_)
        | (with_reducible refine wpl_ld rfl 5 _ rfl _ rfl .u8 Tryz.underlying5 _ hc ?_)
        | (go_at_call 63; refine (HE.out _).mono ?_; rintro e w1 ⟨rfl, rfl⟩))
      go_ret
      exact ⟨rfl, rfl⟩
    · have HE := hid (iseven_no (f k) hfk (H.out.2.2 k (by omega)))
      have hk2 : k + 1 ≤ i := by omega
      clear he
      go_wp2_with (first
        | (with_reducible refine wpl_sl1 rfl 22 _ _ rfl ad L c rfl .i64 _ rfl k rfl 5 Tryz.underlying22 hlt i8q ?_)
        | (with_reducible refine wpl_ld rfl 5 _ rfl _ rfl .u8 Tryz.underlying5 _ hc ?_)
        | (go_at_call 63; refine (HE.out _).mono ?_; rintro e w1 ⟨rfl, rfl⟩))
      go_round
      case rel => exact ⟨k + 1, hk2, val_int (by omega), by first | rfl | trivial⟩
      case measure => simp [intOf]; omega
set_option maxRecDepth 100000 in
set_option maxHeartbeats 1000000 in
/-- no byte is even -/
theorem index_none (A : Option Addr) (L c : Nat) (f : Nat → Nat) (w : World) (hL : L ≤ 1000) (hf : ∀ i, i < L → f i < 256) (hR : Reads w w.heap.size A L f) (h : AllOdd L f) :
    Calls Tryz.prog 62 #[.slice A L c, .func (.func 63) #[] #[]] w fun e w' => e = .returned (.int .i64 (-1)) ∧ w' = w := by
  have HR := hid hR
  have Hf := hid hf
  have H := hid h
  clear hR hf h
  go_enter Tryz.func62, Tryz.ntmps62
  go_wp2_with fail
  go_loopw [5, 8] (fun _ y wr => ∃ k : Nat, k ≤ L ∧ y = .int .i64 (k : Int) ∧ wr = w) (fun _ y _ => L - (intOf y).toNat)
  case atStart => exact ⟨0, by omega, rfl, rfl⟩
  case round =>
    obtain ⟨k, hk, rfl, rfl⟩ := hrel
    by_cases hlt : k < L
    · have hfk := Hf.out k hlt
      obtain ⟨ad, rfl, hbl, hcs⟩ := HR.out (by omega)
      have hc := hcs k hlt
      clear hcs
      have HE := hid (iseven_no (f k) hfk (H.out k hlt))
      go_wp2_with (first
        | (with_reducible refine wpl_sl1 rfl 22 _ _ rfl ad L c rfl .i64 _ rfl k rfl 5 Tryz.underlying22 hlt i8q ?_)
        | (with_reducible refine wpl_ld rfl 5 _ rfl _ rfl .u8 Tryz.underlying5 _ hc ?_)
        | (go_at_call 63; refine (HE.out _).mono ?_; rintro e w1 ⟨rfl, rfl⟩))
      go_round
      case rel => exact ⟨k + 1, by omega, val_int (by omega), by first | rfl | trivial⟩
      case measure => simp [intOf]; omega
    · go_wp2_with fail
      go_ret
      exact ⟨rfl, rfl⟩
theorem right_kind (z : Int) (h1 : z ≠ 1) (h2 : z ≠ 2) (A : Option Addr) (L c : Nat) (w : World) : Calls Tryz.prog 29 #[.int .i64 z, .slice A L c] w fun e w' => e = .returned (.iface 71 (.int .i64 1)) ∧ w' = w := by
  go_enter Tryz.func29, Tryz.ntmps29
  go_wp2_with (go_at_call 61; refine (refuse_kind z h1 h2 A L c _).mono ?_; rintro e w1 ⟨rfl, rfl⟩)
  go_ret
  exact ⟨rfl, rfl⟩
theorem right_size (k : Nat) (hk : k = 1 ∨ k = 2) (A : Option Addr) (L c : Nat) (hL : L ≤ 100000) (hf : ¬ fit9 k L) (w : World) : Calls Tryz.prog 29 #[.int .i64 (k : Int), .slice A L c] w fun e w' => e = .returned (.iface 71 (.int .i64 2)) ∧ w' = w := by
  go_enter Tryz.func29, Tryz.ntmps29
  go_wp2_with (go_at_call 61; refine (refuse_size k hk A L c hL hf _).mono ?_; rintro e w1 ⟨rfl, rfl⟩)
  go_ret
  exact ⟨rfl, rfl⟩
theorem right_aes (A : Option Addr) (L c : Nat) (hL : L ≤ 100000) (hf : fit9 1 L) (w : World) : Calls Tryz.prog 29 #[.int .i64 1, .slice A L c] w fun e w' => e = .returned .nilIface ∧ w' = w := by
  go_enter Tryz.func29, Tryz.ntmps29
  go_wp2_with (go_at_call 61; refine (refuse_ok 1 A L c hL hf _).mono ?_; rintro e w1 ⟨rfl, rfl⟩)
  go_ret
  exact ⟨rfl, rfl⟩
set_option maxRecDepth 100000 in
theorem right_odd (A : Option Addr) (L c : Nat) (f : Nat → Nat) (hf : fit9 2 L) (w : World) (hb : ∀ i, i < L → f i < 256) (hR : Reads w w.heap.size A L f) (h : AllOdd L f) : Calls Tryz.prog 29 #[.int .i64 2, .slice A L c] w fun e w' => e = .returned .nilIface ∧ w' = w := by
  have hL : L ≤ 32 := by have := hf.2; omega
  have HI := hid (index_none A L c f w (by omega) hb hR h)
  have HF := hid (refuse_ok 2 A L c (by omega) hf)
  clear hf hb hR h
  go_enter Tryz.func29, Tryz.ntmps29
  go_wp2_with (first
    | (go_at_call 61; refine (HF.out _).mono ?_; rintro e w1 ⟨rfl, rfl⟩)
    | (go_at_call 62; refine HI.out.mono ?_; rintro e w1 ⟨rfl, rfl⟩))
  go_ret
  exact ⟨rfl, rfl⟩
set_option maxRecDepth 100000 in
theorem right_even (A : Option Addr) (L c : Nat) (f : Nat → Nat) (i : Nat) (hf : fit9 2 L) (w : World) (hb : ∀ i, i < L → f i < 256) (hR : Reads w w.heap.size A L f) (h : EvenAt L f i) : Calls Tryz.prog 29 #[.int .i64 2, .slice A L c] w fun e w' => e = .returned (.iface 81 (.pointer (some ⟨w.heap.size, 0, none⟩))) ∧ Blk w' w.heap.size 84 #[.int .i64 (i : Int), .iface 71 (.int .i64 3)] ∧ Below w.heap.size w w' := by
  have hL : L ≤ 32 := by have := hf.2; omega
  have HI := hid (index_at A L c f i w (by omega) hb hR h)
  have HF := hid (refuse_ok 2 A L c (by omega) hf)
  clear hf hb hR h
  go_enter Tryz.func29, Tryz.ntmps29
  go_wp2_with (first
    | (go_at_call 61; refine (HF.out _).mono ?_; rintro e w1 ⟨rfl, rfl⟩)
    | (go_at_call 62; refine HI.out.mono ?_; rintro e w1 ⟨rfl, rfl⟩))
  go_ret
  exact ⟨rfl, Blk.fresh _ _ _, (Below.refl _ _).alloc (Nat.le_refl _) _⟩
end Go.Proofs.YtaeleohjikheiaaGreatDoor.Pt
