/-
  What part.Value returns.
-/
import Derived.Test.YtaeleohjikheiaaGreatDoorPart2
import Derived.Test.YtaeleohjikheiaaGreatDoorMac3
namespace Go.Proofs.YtaeleohjikheiaaGreatDoor.Pt
open Mem Bk Md Mc Go.ChangeShapes Go.WideShapes Go.ChangeAt Go.RowKit
/-- a key's check value: more than its three bytes -/
def vlF (k L : Nat) (key : Nat → Nat) : Nat → Nat := if k = 1 then cmacF 1 L key 16 zf else tc 2 L key false zf
theorem fit_fits {k L : Nat} (h : fit9 k L) : fits k L := by
  unfold fit9 at h
  unfold fits Aes.IsKey Des.IsTKey
  omega
theorem value_kind (z : Int) (h1 : z ≠ 1) (h2 : z ≠ 2) (A : Option Addr) (L c : Nat) (w : World) : Calls Tryz.prog 34 #[.int .i64 z, .slice A L c] w fun e w' => e = .returned (.tuple #[.slice none 0 0, .iface 71 (.int .i64 1)]) ∧ w' = w := by
  go_enter Tryz.func34, Tryz.ntmps34
  go_wp2_with (go_at_call 61; refine (refuse_kind z h1 h2 A L c _).mono ?_; rintro e w1 ⟨rfl, rfl⟩)
  go_ret2
  exact ⟨rfl, rfl⟩
theorem value_size (k : Nat) (hk : k = 1 ∨ k = 2) (A : Option Addr) (L c : Nat) (hL : L ≤ 100000) (hf : ¬ fit9 k L) (w : World) : Calls Tryz.prog 34 #[.int .i64 (k : Int), .slice A L c] w fun e w' => e = .returned (.tuple #[.slice none 0 0, .iface 71 (.int .i64 2)]) ∧ w' = w := by
  go_enter Tryz.func34, Tryz.ntmps34
  go_wp2_with (go_at_call 61; refine (refuse_size k hk A L c hL hf _).mono ?_; rintro e w1 ⟨rfl, rfl⟩)
  go_ret2
  exact ⟨rfl, rfl⟩
theorem zero_row (n : Nat) : row n (b8 fun _ => 0) = row n (b8 zf) := rfl
set_option maxRecDepth 100000 in
set_option maxHeartbeats 1000000 in
theorem value_aes (A : Option Addr) (L c : Nat) (key : Nat → Nat) (w : World) (hf : fit9 1 L) (hk : ∀ i, i < L → key i < 256) (hR : Reads w w.heap.size A L key) :
    Calls Tryz.prog 34 #[.int .i64 1, .slice A L c] w fun e w' => ∃ v, e = .returned (.tuple #[v, .nilIface]) ∧ Mem.Own w' w.heap.size 5 1 v 3 (vlF 1 L key) ∧ Below w.heap.size w w' := by
  have hL : L ≤ 32 := by have := hf.2; omega
  have hL0 : 0 < L := by have := hf.2; omega
  have hA : A = none → L = 0 ∧ c = 0 := fun h => by obtain ⟨ad, h1, _⟩ := hR hL0; rw [h] at h1; cases h1
  have HF := hid (refuse_ok 1 A L c (by omega) hf)
  have HN := hid (new1 A L c key p0 none w hL hA hk hR (fit_fits hf))
  have hs1 : sz 1 = 16 := rfl
  clear hf hk hR hA
  go_enter Tryz.func34, Tryz.ntmps34
  go_wp2_with (first
    | (go_at_call 61; refine (HF.out _).mono ?_; rintro e w1 ⟨rfl, rfl⟩)
    | (go_at_call 24; refine HN.out.mono ?_; rintro e w1 ⟨gc, rfl, hci, hgc, hB1⟩; have Hc1 := hid hci; have HB1 := hid hB1; clear hci hB1)
    | (go_at_call 65; refine (size_any _ p0 1 gc _ _ _ Hc1.out).mono ?_; rintro e w2 ⟨rfl, rfl⟩; rw [hs1])
    | (with_reducible refine wpl_make rfl 22 5 _ _ rfl Tryz.underlying22 info8 _ _ _ _ rfl rfl 16 rfl rfl (by omega) ?_))
  have hB2 := (Below.refl w1.heap.size w1).alloc (Nat.le_refl _) (.cells (row 16 (b8 fun _ => 0)) 5)
  have HB2 := hid (HB1.out.trans (hB2.mono HB1.out.size))
  refine (cmac_any _ p0 1 gc _ L key (some ⟨w1.heap.size, 0, none⟩) 16 16 zf 3 (by omega) (Hc1.out.keep hB2) (by omega) (by omega) (by rw [hs1]; omega) (fun h => by cases h) (zf_lt _) (Blk.reads (Blk.fresh w1 5 (row 16 (b8 zf))))).mono ?_
  rintro e w3 ⟨v, rfl, ho, hB3⟩
  obtain ⟨A3, c3, rfl, hc3, -, -⟩ := ho.slice'
  have ho2 := own_base ho HB2.out.size
  have HB3 := hid (HB2.out.trans (hB3.mono HB2.out.size))
  have hv : vlF 1 L key = cmacF 1 L key 16 zf := by unfold vlF; rw [if_pos rfl]
  rw [← hv] at ho2
  clear ho hB3 hB2 hv
  go_wp2_with fail
  go_ret2
  exact ⟨_, rfl, ho2, HB3.out⟩
set_option maxRecDepth 100000 in
set_option maxHeartbeats 1000000 in
theorem value_tdes (A : Option Addr) (L c : Nat) (key : Nat → Nat) (w : World) (hf : fit9 2 L) (hk : ∀ i, i < L → key i < 256) (hR : Reads w w.heap.size A L key) :
    Calls Tryz.prog 34 #[.int .i64 2, .slice A L c] w fun e w' => ∃ v, e = .returned (.tuple #[v, .nilIface]) ∧ Mem.Own w' w.heap.size 5 1 v 3 (vlF 2 L key) ∧ Below w.heap.size w w' := by
  have hL : L ≤ 32 := by have := hf.2; omega
  have hL0 : 0 < L := by have := hf.2; omega
  have hA : A = none → L = 0 ∧ c = 0 := fun h => by obtain ⟨ad, h1, _⟩ := hR hL0; rw [h] at h1; cases h1
  have HF := hid (refuse_ok 2 A L c (by omega) hf)
  have HN := hid (new2 A L c key p0 none w hL hA hk hR (fit_fits hf))
  have hs2 : sz 2 = 8 := rfl
  clear hf hk hR hA
  go_enter Tryz.func34, Tryz.ntmps34
  go_wp2_with (first
    | (go_at_call 61; refine (HF.out _).mono ?_; rintro e w1 ⟨rfl, rfl⟩)
    | (go_at_call 24; refine HN.out.mono ?_; rintro e w1 ⟨gc, rfl, hci, hgc, hB1⟩; have Hc1 := hid hci; have HB1 := hid hB1; clear hci hB1)
    | (go_at_call 65; refine (size_any _ p0 2 gc _ _ _ Hc1.out).mono ?_; rintro e w2 ⟨rfl, rfl⟩; rw [hs2])
    | (with_reducible refine wpl_make rfl 22 5 _ _ rfl Tryz.underlying22 info8 _ _ _ _ rfl rfl 8 rfl rfl (by omega) ?_))
  have hB2 := (Below.refl w1.heap.size w1).alloc (Nat.le_refl _) (.cells (row 8 (b8 fun _ => 0)) 5)
  have HB2 := hid (HB1.out.trans (hB2.mono HB1.out.size))
  have hz := Blk.fresh w1 5 (row 8 (b8 zf))
  refine (do12 _ p0 2 gc _ L key ⟨w1.heap.size, 0, none⟩ 8 false zf (by omega) (Hc1.out.keep hB2) hz.lt (fun i hi => by rw [add_zero_off]; exact hz.val i hi) (zf_lt _)).mono ?_
  rintro e w3 ⟨g3, rfl, hb3, hg3, hB3⟩
  rw [hs2] at hb3
  have HX := hid (hb3.reads.less (show 3 ≤ 8 by omega))
  have HB3 := hid (HB2.out.trans (hB3.mono HB2.out.size))
  clear hB3 hB2 hz hb3
  go_wp2_with fail
  refine (clone_any (some ⟨g3, 0, none⟩) 3 8 _ _ (by omega) (fun h => by cases h) HX.out).mono ?_
  rintro e w5 ⟨v5, rfl, ho5, hB5⟩
  obtain ⟨A5, c5, rfl, hc5, -, -⟩ := ho5.slice'
  have ho6 := own_base ho5 HB3.out.size
  have HB5 := hid (HB3.out.trans (hB5.mono HB3.out.size))
  have hv : vlF 2 L key = tc 2 L key false zf := by unfold vlF; rw [if_neg (by omega)]
  rw [← hv] at ho6
  clear ho5 hB5 hv
  go_wp2_with fail
  go_ret2
  exact ⟨_, rfl, ho6, HB5.out⟩
end Go.Proofs.YtaeleohjikheiaaGreatDoor.Pt
