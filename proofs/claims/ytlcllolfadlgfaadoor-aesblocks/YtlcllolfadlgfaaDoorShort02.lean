/-
  What 'short' of layer 2's statements returns: the bytes of a key, over and over, as many as are asked for.
-/
import Derived.Test.YtlcllolfadlgfaaDoorAesCipher
import Derived.Test.YtlcllolfadlgfaaDoorMem2
namespace Go.Proofs.YtlcllolfadlgfaaDoor.Aes
open Go.ChangeShapes Go.WideShapes Go.ChangeAt Go.RowKit Mem

def kn (L wh : Nat) : Nat := if L = 0 then 0 else if wh % 4 = 0 then 16 else if wh % 4 = 1 then 24 else if wh % 4 = 2 then 32 else L
/-- a new slice of n bytes, f -/
def NewBytes (n : Nat) (f : Nat → Nat) (w : World) (e : Ending) (w' : World) : Prop := ∃ A c, e = .returned (.slice A n c) ∧ n ≤ c ∧ Reads w' w'.heap.size A n f ∧ Below w.heap.size w w'
theorem short_step (L : Nat) (f : Nat → Nat) (k : Nat) (b : Nat → Nat) (hb : b 0 = f (k % L)) : ∀ i, i < (k + 1) * 1 → cat (k * 1) (fun i => f (i % L)) b i = f (i % L) := by
  intro i hi
  unfold cat
  by_cases h : i < k * 1
  · rw [if_pos h]
  · rw [if_neg h, show i - k * 1 = 0 by omega, hb, show i = k by omega]
theorem row1 (f : Nat → Nat) (a : Int) (h : a = (f 0 : Nat)) : #[Value.int .u8 a] = row (1 * 1) (b8 f) := by
  subst h
  apply row_of (by rfl)
  intro i hi
  match i, hi with
  | 0, _ => rfl
  | n + 1, h => omega
set_option maxRecDepth 100000 in
set_option maxHeartbeats 4000000 in
theorem short0 (A : Option Addr) (L c wh : Nat) (f : Nat → Nat) (w : World) (hL : 0 < L) (hL2 : L ≤ 100) (hR : Reads w w.heap.size A L f) (hm : wh % 4 = 0) :
    Calls Tryd.prog 9 #[.slice A L c, .int .u8 wh] w (NewBytes 16 (fun i => f (i % L)) w) := by
  obtain ⟨ad, rfl, hbl, hcs⟩ := hR hL
  have Hcs := hid hcs
  have hLp : (0 : Int) < (L : Int) := by omega
  clear hcs hR
  have hw4 : (wh : Int) % 4 = 0 := by omega
  clear hm
  go_enter Tryd.func9, Tryd.ntmps9
  go_wp2_with fail
  clear hw4
  go_loopw [6, 7] (fun v i wr => ∃ (k : Nat), k ≤ 16 ∧ i = .int .i64 k ∧ Own wr (w.heap.size + 1) 5 1 v k (fun i => f (i % L)) ∧ Below w.heap.size w wr ∧ w.heap.size + 1 ≤ wr.heap.size) (fun _ i _ => 16 - (intOf i).toNat)
  case atStart => exact ⟨0, by omega, rfl, Own.nil _ _ _ _ _, (Below.refl _ _).alloc (Nat.le_refl _) _, by simp⟩
  case round =>
    obtain ⟨k, hk, rfl, ho, hB, hsz⟩ := hrel
    by_cases hlt : k < 16
    · have hkm : k % L < L := Nat.mod_lt _ hL
      have hc : wr.cell? (ad.add (k % L)) = some (.int .u8 ((f (k % L) : Nat) : Int)) := by exact (hB.cell (by rw [add_block]; exact hbl)).trans (Hcs.out (k % L) hkm)
      go_wp2_with (first
        | (with_reducible refine wpl_sl1 rfl 22 _ _ rfl ad L c rfl .i64 _ rfl (k % L) (Int.natCast_mod k L).symm 5 Tryd.underlying22 hkm i8 ?_)
        | (with_reducible refine wpl_ld rfl 5 _ rfl _ rfl .u8 Tryd.underlying5 _ hc ?_)
        | (at_builtin; refine wpl_app rfl _ _ 22 rfl (w.heap.size + 1) 5 1 (.int .u8 0) Tryd.underlying22 info8 rfl (by omega) _ k _ rfl ho 1 (fun _ => f (k % L)) _ (row1 _ _ rfl) rfl (by omega) hsz ?_))
      intro v' w1 ho1 hB1
      have ho2 : Own w1 (w.heap.size + 1) 5 1 v' (k + 1) (fun i => f (i % L)) := ho1.ext (fun i hi => by have := short_step L f k (fun _ => f (k % L)) rfl i hi; rwa [Nat.mul_one] at this)
      have hB2 := hB.trans (hB1.mono (by omega))
      have hs2 := Nat.le_trans hsz hB1.size
      clear ho ho1 hB hB1 hc
      go_wp2_with fail
      go_round
      case rel => exact ⟨k + 1, by omega, val_int (by omega), ho2, hB2, hs2⟩
      case measure => simp [intOf]; omega
    · go_wp2_with fail
      obtain ⟨A', c', rfl, hcap⟩ := ho.slice
      go_ret
      obtain rfl : k = 16 := by omega
      exact ⟨A', c', rfl, hcap, ho.reads, hB⟩
set_option maxRecDepth 100000 in
set_option maxHeartbeats 4000000 in
theorem short1 (A : Option Addr) (L c wh : Nat) (f : Nat → Nat) (w : World) (hL : 0 < L) (hL2 : L ≤ 100) (hR : Reads w w.heap.size A L f) (hm : wh % 4 = 1) :
    Calls Tryd.prog 9 #[.slice A L c, .int .u8 wh] w (NewBytes 24 (fun i => f (i % L)) w) := by
  obtain ⟨ad, rfl, hbl, hcs⟩ := hR hL
  have Hcs := hid hcs
  have hLp : (0 : Int) < (L : Int) := by omega
  clear hcs hR
  have hw4 : (wh : Int) % 4 = 1 := by omega
  clear hm
  go_enter Tryd.func9, Tryd.ntmps9
  go_wp2_with fail
  clear hw4
  go_loopw [6, 7] (fun v i wr => ∃ (k : Nat), k ≤ 24 ∧ i = .int .i64 k ∧ Own wr (w.heap.size + 1) 5 1 v k (fun i => f (i % L)) ∧ Below w.heap.size w wr ∧ w.heap.size + 1 ≤ wr.heap.size) (fun _ i _ => 24 - (intOf i).toNat)
  case atStart => exact ⟨0, by omega, rfl, Own.nil _ _ _ _ _, (Below.refl _ _).alloc (Nat.le_refl _) _, by simp⟩
  case round =>
    obtain ⟨k, hk, rfl, ho, hB, hsz⟩ := hrel
    by_cases hlt : k < 24
    · have hkm : k % L < L := Nat.mod_lt _ hL
      have hc : wr.cell? (ad.add (k % L)) = some (.int .u8 ((f (k % L) : Nat) : Int)) := by exact (hB.cell (by rw [add_block]; exact hbl)).trans (Hcs.out (k % L) hkm)
      go_wp2_with (first
        | (with_reducible refine wpl_sl1 rfl 22 _ _ rfl ad L c rfl .i64 _ rfl (k % L) (Int.natCast_mod k L).symm 5 Tryd.underlying22 hkm i8 ?_)
        | (with_reducible refine wpl_ld rfl 5 _ rfl _ rfl .u8 Tryd.underlying5 _ hc ?_)
        | (at_builtin; refine wpl_app rfl _ _ 22 rfl (w.heap.size + 1) 5 1 (.int .u8 0) Tryd.underlying22 info8 rfl (by omega) _ k _ rfl ho 1 (fun _ => f (k % L)) _ (row1 _ _ rfl) rfl (by omega) hsz ?_))
      intro v' w1 ho1 hB1
      have ho2 : Own w1 (w.heap.size + 1) 5 1 v' (k + 1) (fun i => f (i % L)) := ho1.ext (fun i hi => by have := short_step L f k (fun _ => f (k % L)) rfl i hi; rwa [Nat.mul_one] at this)
      have hB2 := hB.trans (hB1.mono (by omega))
      have hs2 := Nat.le_trans hsz hB1.size
      clear ho ho1 hB hB1 hc
      go_wp2_with fail
      go_round
      case rel => exact ⟨k + 1, by omega, val_int (by omega), ho2, hB2, hs2⟩
      case measure => simp [intOf]; omega
    · go_wp2_with fail
      obtain ⟨A', c', rfl, hcap⟩ := ho.slice
      go_ret
      obtain rfl : k = 24 := by omega
      exact ⟨A', c', rfl, hcap, ho.reads, hB⟩
set_option maxRecDepth 100000 in
set_option maxHeartbeats 4000000 in
theorem short2 (A : Option Addr) (L c wh : Nat) (f : Nat → Nat) (w : World) (hL : 0 < L) (hL2 : L ≤ 100) (hR : Reads w w.heap.size A L f) (hm : wh % 4 = 2) :
    Calls Tryd.prog 9 #[.slice A L c, .int .u8 wh] w (NewBytes 32 (fun i => f (i % L)) w) := by
  obtain ⟨ad, rfl, hbl, hcs⟩ := hR hL
  have Hcs := hid hcs
  have hLp : (0 : Int) < (L : Int) := by omega
  clear hcs hR
  have hw4 : (wh : Int) % 4 = 2 := by omega
  clear hm
  go_enter Tryd.func9, Tryd.ntmps9
  go_wp2_with fail
  clear hw4
  go_loopw [6, 7] (fun v i wr => ∃ (k : Nat), k ≤ 32 ∧ i = .int .i64 k ∧ Own wr (w.heap.size + 1) 5 1 v k (fun i => f (i % L)) ∧ Below w.heap.size w wr ∧ w.heap.size + 1 ≤ wr.heap.size) (fun _ i _ => 32 - (intOf i).toNat)
  case atStart => exact ⟨0, by omega, rfl, Own.nil _ _ _ _ _, (Below.refl _ _).alloc (Nat.le_refl _) _, by simp⟩
  case round =>
    obtain ⟨k, hk, rfl, ho, hB, hsz⟩ := hrel
    by_cases hlt : k < 32
    · have hkm : k % L < L := Nat.mod_lt _ hL
      have hc : wr.cell? (ad.add (k % L)) = some (.int .u8 ((f (k % L) : Nat) : Int)) := by exact (hB.cell (by rw [add_block]; exact hbl)).trans (Hcs.out (k % L) hkm)
      go_wp2_with (first
        | (with_reducible refine wpl_sl1 rfl 22 _ _ rfl ad L c rfl .i64 _ rfl (k % L) (Int.natCast_mod k L).symm 5 Tryd.underlying22 hkm i8 ?_)
        | (with_reducible refine wpl_ld rfl 5 _ rfl _ rfl .u8 Tryd.underlying5 _ hc ?_)
        | (at_builtin; refine wpl_app rfl _ _ 22 rfl (w.heap.size + 1) 5 1 (.int .u8 0) Tryd.underlying22 info8 rfl (by omega) _ k _ rfl ho 1 (fun _ => f (k % L)) _ (row1 _ _ rfl) rfl (by omega) hsz ?_))
      intro v' w1 ho1 hB1
      have ho2 : Own w1 (w.heap.size + 1) 5 1 v' (k + 1) (fun i => f (i % L)) := ho1.ext (fun i hi => by have := short_step L f k (fun _ => f (k % L)) rfl i hi; rwa [Nat.mul_one] at this)
      have hB2 := hB.trans (hB1.mono (by omega))
      have hs2 := Nat.le_trans hsz hB1.size
      clear ho ho1 hB hB1 hc
      go_wp2_with fail
      go_round
      case rel => exact ⟨k + 1, by omega, val_int (by omega), ho2, hB2, hs2⟩
      case measure => simp [intOf]; omega
    · go_wp2_with fail
      obtain ⟨A', c', rfl, hcap⟩ := ho.slice
      go_ret
      obtain rfl : k = 32 := by omega
      exact ⟨A', c', rfl, hcap, ho.reads, hB⟩
set_option maxRecDepth 100000 in
set_option maxHeartbeats 4000000 in
theorem short3 (A : Option Addr) (L c wh : Nat) (f : Nat → Nat) (w : World) (hL : 0 < L) (hL2 : L ≤ 100) (hR : Reads w w.heap.size A L f) (hm : wh % 4 = 3) :
    Calls Tryd.prog 9 #[.slice A L c, .int .u8 wh] w (NewBytes L (fun i => f (i % L)) w) := by
  obtain ⟨ad, rfl, hbl, hcs⟩ := hR hL
  have Hcs := hid hcs
  have hLp : (0 : Int) < (L : Int) := by omega
  clear hcs hR
  have hw4 : (wh : Int) % 4 = 3 := by omega
  clear hm
  go_enter Tryd.func9, Tryd.ntmps9
  go_wp2_with fail
  clear hw4
  go_loopw [6, 7] (fun v i wr => ∃ (k : Nat), k ≤ L ∧ i = .int .i64 k ∧ Own wr (w.heap.size + 1) 5 1 v k (fun i => f (i % L)) ∧ Below w.heap.size w wr ∧ w.heap.size + 1 ≤ wr.heap.size) (fun _ i _ => L - (intOf i).toNat)
  case atStart => exact ⟨0, by omega, rfl, Own.nil _ _ _ _ _, (Below.refl _ _).alloc (Nat.le_refl _) _, by simp⟩
  case round =>
    obtain ⟨k, hk, rfl, ho, hB, hsz⟩ := hrel
    by_cases hlt : k < L
    · have hkm : k % L < L := Nat.mod_lt _ hL
      have hc : wr.cell? (ad.add (k % L)) = some (.int .u8 ((f (k % L) : Nat) : Int)) := by exact (hB.cell (by rw [add_block]; exact hbl)).trans (Hcs.out (k % L) hkm)
      go_wp2_with (first
        | (with_reducible refine wpl_sl1 rfl 22 _ _ rfl ad L c rfl .i64 _ rfl (k % L) (Int.natCast_mod k L).symm 5 Tryd.underlying22 hkm i8 ?_)
        | (with_reducible refine wpl_ld rfl 5 _ rfl _ rfl .u8 Tryd.underlying5 _ hc ?_)
        | (at_builtin; refine wpl_app rfl _ _ 22 rfl (w.heap.size + 1) 5 1 (.int .u8 0) Tryd.underlying22 info8 rfl (by omega) _ k _ rfl ho 1 (fun _ => f (k % L)) _ (row1 _ _ rfl) rfl (by omega) hsz ?_))
      intro v' w1 ho1 hB1
      have ho2 : Own w1 (w.heap.size + 1) 5 1 v' (k + 1) (fun i => f (i % L)) := ho1.ext (fun i hi => by have := short_step L f k (fun _ => f (k % L)) rfl i hi; rwa [Nat.mul_one] at this)
      have hB2 := hB.trans (hB1.mono (by omega))
      have hs2 := Nat.le_trans hsz hB1.size
      clear ho ho1 hB hB1 hc
      go_wp2_with fail
      go_round
      case rel => exact ⟨k + 1, by omega, val_int (by omega), ho2, hB2, hs2⟩
      case measure => simp [intOf]; omega
    · go_wp2_with fail
      obtain ⟨A', c', rfl, hcap⟩ := ho.slice
      go_ret
      obtain rfl : k = L := by omega
      exact ⟨A', c', rfl, hcap, ho.reads, hB⟩

set_option maxHeartbeats 1000000 in
theorem short_nil (A : Option Addr) (c wh : Nat) (f : Nat → Nat) (w : World) :
    Calls Tryd.prog 9 #[.slice A 0 c, .int .u8 wh] w (NewBytes 0 (fun i => f (i % 0)) w) := by
  rcases (show wh % 4 = 0 ∨ wh % 4 = 1 ∨ wh % 4 = 2 ∨ wh % 4 = 3 by omega) with hm | hm | hm | hm
  all_goals
    have hw4 : (wh : Int) % 4 = ((wh % 4 : Nat) : Int) := by omega
    rw [hm] at hw4
    clear hm
    go_enter Tryd.func9, Tryd.ntmps9
    go_wp2_with fail
    refine wp_loop_rounds 1 ?_
    rw [rounds_succ]
    go_wp2_with fail
    go_ret
    exact ⟨none, 0, rfl, Nat.le_refl _, fun h => by omega, (Below.refl _ _).alloc (Nat.le_refl _) _⟩
theorem short_any (A : Option Addr) (L c wh : Nat) (f : Nat → Nat) (w : World) (hL2 : L ≤ 100) (hR : Reads w w.heap.size A L f) :
    Calls Tryd.prog 9 #[.slice A L c, .int .u8 wh] w (NewBytes (kn L wh) (fun i => f (i % L)) w) := by
  by_cases h0 : L = 0
  · subst h0
    exact short_nil A c wh f w
  · rcases (show wh % 4 = 0 ∨ wh % 4 = 1 ∨ wh % 4 = 2 ∨ wh % 4 = 3 by omega) with hm | hm | hm | hm
    · have e : kn L wh = 16 := by unfold kn; rw [if_neg h0, if_pos hm]
      rw [e]; exact short0 A L c wh f w (by omega) hL2 hR hm
    · have e : kn L wh = 24 := by unfold kn; rw [if_neg h0, if_neg (by omega), if_pos hm]
      rw [e]; exact short1 A L c wh f w (by omega) hL2 hR hm
    · have e : kn L wh = 32 := by unfold kn; rw [if_neg h0, if_neg (by omega), if_neg (by omega), if_pos hm]
      rw [e]; exact short2 A L c wh f w (by omega) hL2 hR hm
    · have e : kn L wh = L := by unfold kn; rw [if_neg h0, if_neg (by omega), if_neg (by omega), if_neg (by omega)]
      rw [e]; exact short3 A L c wh f w (by omega) hL2 hR hm
end Go.Proofs.YtlcllolfadlgfaaDoor.Aes
