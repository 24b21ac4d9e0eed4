/-
  What Take of package tape returns.
-/
import Derived.Test.YtdodflnmhgnpeaaGreatDoorTape
import Derived.Deep.RegionHeld3
namespace Go.Proofs.YtdodflnmhgnpeaaGreatDoor.Mem
open Go.ChangeShapes Go.WideShapes Go.ChangeAt Go.RowKit
/-- where a slice from k on begins -/
def cutA (A : Option Addr) (k c : Nat) : Option Addr := if c = k then A else A.map (·.add k)
theorem size8 (w : World) : (sizeOf 5).run Tryz.prog w = .ok 1 w := by kernel_rfl
theorem elem8 : Tryz.prog.elem 22 = 5 := by kernel_rfl
set_option maxRecDepth 100000 in
theorem run_cut (A : Option Addr) (n c d z : Nat) (x y : Int) (hx : x = (d : Int)) (hy : y = (d : Int) + (z : Int)) (h : d + z ≤ c) (w : World) : (Instr.sliceAt 22 (.slice A n c) (some (.int .i64 x)) (some (.int .i64 y)) none).run Tryz.prog w = .ok (.slice (cutA A d c) z (c - d)) w := by
  subst hx hy
  have hu : Tryz.prog.underlying 22 = some (.slice (Tryz.prog.elem 22)) := by rw [elem8]; exact Tryz.underlying22
  rw [run_sliceAt_slice w 22 _ _ _ _ hu, run_slice_lh w 22 A n c hu .i64 .i64 _ _ (by omega) (by omega) (by omega), elem8, size8]
  simp only [Result.andThen, sliced, cutA]
  congr 1
  have e1 : ((d : Int)).toNat = d := by omega
  have e2 : ((d : Int) + (z : Int)).toNat = d + z := by omega
  rw [e1, e2, Nat.mul_one, Nat.add_sub_cancel_left]
theorem Reads.cutA {w : World} {B : Nat} {A : Option Addr} {n : Nat} {f : Nat → Nat} (h : Reads w B A n f) {k z cap : Nat} (hk : k + z ≤ n) (hc : n ≤ cap) : Reads w B (cutA A k cap) z (fun i => f (k + i)) :=
  Reads.less (h.cut (k := k) (cap := cap) (by omega) hc) (by omega)
theorem cutA_none {A : Option Addr} {n k z c : Nat} (hA : A = none → n = 0 ∧ c = 0) (hk : k + z ≤ n) : cutA A k c = none → z = 0 ∧ c - k = 0 := by
  intro h
  unfold cutA at h
  have : A = none := by
    split at h
    · exact h
    · simpa using h
  have := hA this
  omega
theorem kept_call {g : Nat} {w1 W w2 : World} {x y : Value} (hg : g < w1.heap.size) (h : W.cell? ⟨g, 0, none⟩ = some x ∧ W.cell? ⟨g, 1, none⟩ = some y ∧ Below w1.heap.size w1 W) (hB : Below W.heap.size W w2) :
    w2.cell? ⟨g, 0, none⟩ = some x ∧ w2.cell? ⟨g, 1, none⟩ = some y ∧ Below w1.heap.size w1 w2 :=
  ⟨(hB.cell (p := ⟨g, 0, none⟩) (Nat.lt_of_lt_of_le hg h.2.2.size)).trans h.1, (hB.cell (p := ⟨g, 1, none⟩) (Nat.lt_of_lt_of_le hg h.2.2.size)).trans h.2.1, h.2.2.trans (hB.mono h.2.2.size)⟩
theorem reads_call {w w1 W : World} {A : Option Addr} {n c d z : Nat} {f : Nat → Nat} {p q : Prop} (hR : Reads w1 w.heap.size A n f) (hs : w.heap.size ≤ w1.heap.size) (hd : d + z ≤ n) (hc : n ≤ c) (h : p ∧ q ∧ Below w1.heap.size w1 W) : Reads W W.heap.size (cutA A d c) z (fun i => f (d + i)) :=
  (((hR.more hs).below h.2.2).more h.2.2.size).cutA hd hc
theorem take_neg (p : Value) (z : Int) (w : World) (hz : z < 0) : Calls Tryz.prog 116 #[p, .int .i64 z] w fun e w' => e = .returned (.tuple #[.slice none 0 0, .iface 66 (.int .i64 1)]) ∧ w = w' := by
  go_enter Tryz.func116, Tryz.ntmps116
  go_wp2_with (go_at_call 119; refine (refuse_neg p z _ hz).mono ?_; rintro e w1 ⟨rfl, rfl⟩)
  go_ret2
  exact ⟨rfl, rfl⟩
theorem take_few (g : Nat) (A : Option Addr) (n c d : Nat) (z : Int) (w : World) (hb : Blk w g 92 #[.slice A n c, .int .i64 (d : Int)]) (hd : d ≤ n) (hn : n ≤ 1000000) (hz : (n : Int) - (d : Int) < z) :
    Calls Tryz.prog 116 #[.pointer (some ⟨g, 0, none⟩), .int .i64 z] w fun e w' => ∃ k, e = .returned (.tuple #[.slice none 0 0, .iface 87 (.pointer (some ⟨k, 0, none⟩))]) ∧ Blk w' k 90 #[.int .i64 ((n : Int) - (d : Int)), .iface 66 (.int .i64 13)] ∧ w.heap.size ≤ k ∧ Below w.heap.size w w' := by
  have Hb := hid hb
  clear hb
  go_enter Tryz.func116, Tryz.ntmps116
  go_wp2_with (go_at_call 119; refine (refuse_few g A n c d z _ Hb.out hd hn hz).mono ?_; rintro e w1 ⟨k, rfl, hk, hks, hB⟩)
  go_ret2
  exact ⟨k, rfl, hk, hks, hB⟩
set_option maxRecDepth 100000 in
set_option maxHeartbeats 1000000 in
theorem take_ok (g base : Nat) (v : Value) (n d z : Nat) (f : Nat → Nat) (w : World) (hb : Blk w g 92 #[v, .int .i64 (d : Int)]) (ho : Own w base 5 1 v n f) (hd : d + z ≤ n) (hn : n ≤ 100000) :
    Calls Tryz.prog 116 #[.pointer (some ⟨g, 0, none⟩), .int .i64 (z : Int)] w fun e w' => ∃ vx, e = .returned (.tuple #[vx, .nilIface]) ∧ Own w' w.heap.size 5 1 vx z (fun i => f (d + i)) ∧ Kept g w w' ∧ Blk w' g 92 #[v, .int .i64 ((d + z : Nat) : Int)] := by
  obtain ⟨A, c, rfl, hc, hA, -⟩ := ho.slice'
  have HR := hid ho.reads
  have Hb := hid hb
  have Ho := hid ho
  clear ho hb
  go_enter Tryz.func116, Tryz.ntmps116
  go_wp2_with (go_at_call 119; refine (refuse_ok g A n c d (z : Int) _ Hb.out (by omega) (by omega) (by omega) (by omega)).mono ?_; rintro e w1 ⟨rfl, hB⟩)
  have hb1 := Hb.out.below hB Hb.out.lt
  have HR1 := hid (HR.out.below hB)
  have hc0 : w1.cell? ⟨g, 0, none⟩ = some (.slice A n c) := hb1.cell 0
  have hc1 : w1.cell? ⟨g, 1, none⟩ = some (.int .i64 (d : Int)) := hb1.cell 1
  have Hb1 := hid hb1
  have hcut := fun w => run_cut A n c d z _ _ rfl rfl (by omega) w
  have HA := hid (cutA_none hA hd)
  clear hb1 hA
  have hwr : IntKind.i64.wrap ((d : Int) + (z : Int)) = (d : Int) + (z : Int) := wrap_i64 _ _ rfl (by omega) (by omega)
  have hgl := hid (Nat.lt_of_lt_of_le Hb.out.lt hB.size)
  go_region_held3 (fun W => W.cell? ⟨g, 0, none⟩ = some (.slice A n c) ∧ W.cell? ⟨g, 1, none⟩ = some (.int .i64 (d : Int)) ∧ Below w1.heap.size w1 W)
    (first
      | exact ⟨hc0, hc1, (Below.refl _ _).drew⟩
      | (exact kept_call hgl.out (by assumption) hB2))
    (first
      | (go_at_call 34; refine (clone_any (cutA A d c) z (c - d) (fun i => f (d + i)) _ (by omega) HA.out (reads_call HR1.out hB.size hd hc (by assumption))).mono ?_; rintro e w2 ⟨vx, rfl, hox, hB2⟩))
  rename_i hH
  have h21 := hH.2.1
  have hB12 := hid hH.2.2
  have hb2 := hid (Hb1.out.below hH.2.2 Hb1.out.lt)
  have hfr := hb2.out.free 1
  clear hcut hc0 hc1 hH
  go_wp2_with fail
  go_ret2
  have hk2 : Kept g w2 (w2.setCell ⟨g, 1, none⟩ (.int .i64 ((d : Int) + (z : Int)))) := (Kept.refl g w2).setCell 1 _
  have e : (d : Int) + (z : Int) = ((d + z : Nat) : Int) := by omega
  refine ⟨vx, rfl, hk2.own hb2.out (by decide) (hox.more hB.size), (Kept.of hB).trans ((Kept.of hB12.out).trans hk2), ?_⟩
  rw [← e]
  exact hb2.out.setCell 1 _
end Go.Proofs.YtdodflnmhgnpeaaGreatDoor.Mem
