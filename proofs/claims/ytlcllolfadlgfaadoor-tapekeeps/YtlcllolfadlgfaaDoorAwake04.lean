/-
  The example of chapter 4: lockboxlaw04's awake returns true.
-/
import Derived.Test.YtlcllolfadlgfaaDoorTape3
import Derived.Test.YtlcllolfadlgfaaDoorAsFault
import Derived.Test.YtlcllolfadlgfaaDoorAsAt
namespace Go.Proofs.YtlcllolfadlgfaaDoor.Law04
open Go.ChangeShapes Go.WideShapes Go.ChangeAt Go.RowKit Mem As
theorem left_of (y : Int) (g : Nat) (A : Option Addr) (n c d : Nat) (w : World) (hb : Blk w g 65 #[.slice A n c, .int .i64 (d : Int)]) (hd : d ≤ n) (hn : n ≤ 1000000) (hy : y = (n : Int) - (d : Int)) :
    Calls Tryd.prog 17 #[.pointer (some ⟨g, 0, none⟩)] w fun e w' => e = .returned (.int .i64 y) ∧ Below w.heap.size w w' := by
  subst hy; exact left_any g A n c d w hb hd hn
theorem take_of (y : Int) (g base : Nat) (v : Value) (n d z : Nat) (f : Nat → Nat) (w : World) (hy : y = (z : Int)) (hb : Blk w g 65 #[v, .int .i64 (d : Int)]) (ho : Own w base 5 1 v n f) (hd : d + z ≤ n) (hn : n ≤ 100000) :
    Calls Tryd.prog 18 #[.pointer (some ⟨g, 0, none⟩), .int .i64 y] w fun e w' => ∃ vx, e = .returned (.tuple #[vx, .nilIface]) ∧ Own w' w.heap.size 5 1 vx z (fun i => f (d + i)) ∧ Kept g w w' ∧ Blk w' g 65 #[v, .int .i64 ((d + z : Nat) : Int)] := by
  subst hy; exact take_ok g base v n d z f w hb ho hd hn
theorem digits_of (y : Int) (g base : Nat) (A : Option Addr) (n c d z : Nat) (f : Nat → Nat) (w : World) (hy : y = (z : Int)) (hb : Blk w g 65 #[.slice A n c, .int .i64 (d : Int)]) (ho : Own w base 5 1 (.slice A n c) n f) (hd : d + z ≤ n) (hn : n ≤ 100000) (hf : ∀ i, i < n → f i < 256) :
    Calls Tryd.prog 21 #[.pointer (some ⟨g, 0, none⟩), .int .i64 y] w (DigOut g (.slice A n c) n d y f w) := by
  subst hy; exact digits_any g base A n c d z f w hb ho hd hn hf
/-- the bytes of the example -/
def fEx : Nat → Nat := fun i => if i = 0 then 1 else if i = 1 then 255 else if i = 2 then 12 else 9
theorem fEx_row : #[Value.int .u8 1, .int .u8 255, .int .u8 12, .int .u8 9] = row 4 (b8 fEx) := row4 fEx 1 255 12 9 rfl rfl rfl rfl
theorem dig_ex {g : Nat} {v : Value} {w w' : World} {e : Ending} (h : DigOut g v 4 0 2 fEx w e w') : e = .returned (.tuple #[.string ⟨#[49, 50]⟩, .nilIface]) ∧ Kept g w w' ∧ Blk w' g 65 #[v, .int .i64 ((3 : Nat) : Int)] := by
  have e0 : (fun i => fEx (0 + i)) = fEx := by funext i; rw [Nat.zero_add]
  unfold DigOut at h
  rw [e0] at h
  rcases h with ⟨k, _, h1, h2, rfl, h4, h5⟩ | ⟨h1, _⟩
  · have hk : k = 3 := stop_one (f := fEx) (z := 2) (by omega) (fun j hj => by have := h2 j hj; omega) (by decide) (by decide)
    subst hk
    exact ⟨rfl, h4, h5⟩
  · have : (cntD fEx (4 - 0) : Int) = 3 := by decide
    omega
set_option maxRecDepth 100000 in
set_option maxHeartbeats 2000000 in
theorem awake_any (w : World) (hg : Laid w) : Calls Tryd.prog 15 #[] w fun e w' => e = .returned (.bool true) ∧ Below w.heap.size w w' := by
  have Hg := hid hg
  have hb0 : Blk (w.alloc (.cells #[.int .u8 1, .int .u8 255, .int .u8 12, .int .u8 9] 5)) w.heap.size 5 (row 4 (b8 fEx)) := by rw [← fEx_row]; exact Blk.fresh _ _ _
  have hR0 := hid hb0.reads
  have hB0 : Below w.heap.size w (w.alloc (.cells #[.int .u8 1, .int .u8 255, .int .u8 12, .int .u8 9] 5)) := (Below.refl _ _).alloc (Nat.le_refl _) _
  have HB0 := hid hB0
  clear hg hb0 hB0
  go_enter Tryd.func15, Tryd.ntmps15
  go_wp2_with (go_at_call 16; refine (new_ok (some ⟨w.heap.size, 0, none⟩) 4 4 fEx _ (by omega) (fun h => by cases h) hR0.out).mono ?_; rintro e w1 ⟨v, g, rfl, ho, hb, hgs, hB⟩)
  have hB1 : Below w.heap.size w w1 := HB0.out.trans (hB.mono (by simp))
  have hgw : w.heap.size ≤ g := by simp at hgs; omega
  obtain ⟨A, c, rfl, hc, -, -⟩ := ho.slice'
  clear hgs hR0 HB0 hB
  refine (digits_of 2 g _ A 4 c 0 2 fEx _ rfl hb ho (by omega) (by omega) (fun i _ => by unfold fEx; split <;> (try split) <;> (try split) <;> omega)).mono ?_
  rintro e w2 hD
  obtain ⟨rfl, hk2, hb2⟩ := dig_ex hD
  have ho2 := hk2.own hb (by decide) ho
  have hB2 : Below w.heap.size w w2 := hB1.trans (hk2.below hgw hB1.size)
  clear hD hk2 hb ho hB1
  go_wp2_with fail
  refine (take_few g A 4 c 3 2 _ hb2 (by omega) (by omega) (by omega)).mono ?_
  rintro e w3 ⟨k, rfl, hF, hk, hB⟩
  have hb3 := hb2.below hB hb2.lt
  have ho3 := ho2.below hB (Nat.le_refl _)
  have hB3 : Below w.heap.size w w3 := hB2.trans (hB.mono hB2.size)
  have hkg : k ≠ g := by have := hb2.lt; omega
  clear hb2 ho2 hB2 hB hk
  go_wp2_with fail
  refine (take_of 1 g _ _ 4 3 1 fEx _ rfl hb3 ho3 (by omega) (by omega)).mono ?_
  rintro e w4 ⟨vx, rfl, hox, hk4, hb4⟩
  have hF4 := hk4.blk hF hkg
  have hB4 : Below w.heap.size w w4 := hB3.trans (hk4.below hgw hB3.size)
  obtain ⟨Ax, cx, rfl, hcx, -, -⟩ := hox.slice'
  obtain ⟨ad, rfl, had, hcell⟩ := hox.reads (by omega)
  have hx0 : w4.cell? ad = some (.int .u8 9) := by have := hcell 0 (by omega); simpa [Addr.add, fEx] using this
  clear hb3 ho3 hB3 hk4 hox hcell hF hkg
  have HF4 := hid hF4
  have Hb4 := hid hb4
  have HB4 := hid hB4
  clear hF4 hb4 hB4
  go_wp2_with fail
  refine (code_fault 13 k _ (Hg.out.below HB4.out) (HF4.out.cell 1)).mono ?_
  rintro e w5 ⟨rfl, hB5⟩
  have HB5 := hid (HB4.out.trans (hB5.mono HB4.out.size))
  go_wp2_with fail
  refine (at_fault _ _ k _ (Hg.out.below HB5.out) (HF4.out.below hB5 HF4.out.lt)).mono ?_
  rintro e w6 ⟨rfl, hB6⟩
  have HB6 := hid (HB5.out.trans (hB6.mono HB5.out.size))
  have hB46 := hB5.trans (hB6.mono hB5.size)
  have hx6 : w6.cell? ad = some (.int .u8 9) := (hB46.cell (p := ad) had).trans hx0
  have Hb6 := hid (Hb4.out.below hB46 Hb4.out.lt)
  clear hx0 hB5 hB6 hB46
  go_wp2_with fail
  refine (left_of 0 g A 4 c 4 _ Hb6.out (by omega) (by omega) (by omega)).mono ?_
  rintro e w7 ⟨rfl, hB7⟩
  go_wp2_with fail
  go_ret
  exact ⟨rfl, HB6.out.trans (hB7.mono HB6.out.size)⟩
end Go.Proofs.YtlcllolfadlgfaaDoor.Law04
