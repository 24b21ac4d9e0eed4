/-
 What the document's own Bits, place and permute of layer 3 return: contracts over the loaded program.
-/
import Derived.Test.YtinejbjndpdcmaaDoorLst
import Derived.Test.YtinejbjndpdcmaaDoorDesX
import Derived.Test.YtinejbjndpdcmaaDoorBits
namespace Go.Proofs.YtinejbjndpdcmaaDoor.Des
open Go.ChangeShapes Go.WideShapes Go.ChangeAt Go.RowKit Mem
theorem infoI : (Tryd.prog.info? 3).map (fun i => (i.zero, i.size, i.bytes)) = some (some (.int .i64 0), 1, 8) := by kernel_rfl
theorem iI : (Tryd.prog.info? 3).map (·.size) = some 1 := by kernel_rfl
def bitsF (f : Nat → Nat) : Nat → Nat := fun t => f (t / 8) / 2 ^ (7 - t % 8) % 2
theorem bit_i64 (x k : Nat) (hx : x < 256) : bits .and .i64 ((x : Int) / 2 ^ k) 1 = ((x / 2 ^ k % 2 : Nat) : Int) := by
 have e : ((x : Int) / 2 ^ k) = ((x / 2 ^ k : Nat) : Int) := by simp
 rw [e]
 exact i64_and_one _ (Nat.lt_of_le_of_lt (Nat.div_le_self _ _) (by omega))
theorem own_step {wx : World} {base : Nat} {e : TypeId} {v : Value} {k : Nat} {F : Nat → Nat} {x : Int} (h : OwnV wx base e v (k + 1) (catV k (iv .i64 F) fun _ => .int .i64 x)) (hx : x = ((F k : Nat) : Int)) : OwnV wx base e v (k + 1) (iv .i64 F) := h.ext fun i hi => by
 unfold catV
 by_cases h : i < k
 ·rw [if_pos h]
 rw [if_neg h, hx]; obtain rfl : i = k := by omega
 rfl
set_option maxRecDepth 100000 in
set_option maxHeartbeats 2000000 in
theorem bits_any (A : Option Addr) (n c : Nat) (f : Nat → Nat) (hn : 0 < n) (hn2 : n ≤ 100) (hf : ∀ i, i < n → f i < 256) (w : World) (hR : Reads w w.heap.size A n f) :
  Calls Tryd.prog 25 #[.slice A n c] w fun e w' => ∃ A' c', e = .returned (.slice A' (8 * n) c') ∧ 8 * n ≤ c' ∧ Lst w' 3 A' (8 * n) (iv .i64 (bitsF f)) ∧ Below w.heap.size w w' := by
 obtain ⟨ad, rfl, had, hcell⟩ := hR hn
 have Hf := hid hf
 have HC := hid hcell
 clear hR hf hcell
 go_enter Tryd.func25, Tryd.ntmps25
 go_wp2_with fail
 go_loopw [3, 4] (fun v i wr => ∃ k : Nat, k ≤ n ∧ OwnV wr w.heap.size 3 v (8 * k) (iv .i64 (bitsF f)) ∧ i = .int .i64 k ∧ Below w.heap.size w wr) (fun _ i _ => n - (intOf i).toNat)
 case atStart => exact ⟨0, by omega, OwnV.nil _ _ _ _, rfl, Below.refl _ _⟩
 case round =>
  obtain ⟨k, hk, ho, rfl, hB⟩ := hrel
  rename World => wo
  by_cases hlt : k < n
  ·have hfk := Hf.out k hlt
   go_wp2_with fail
   go_loopw [3, 5] (fun v j wr => ∃ q : Nat, q ≤ 8 ∧ OwnV wr w.heap.size 3 v (8 * k + q) (iv .i64 (bitsF f)) ∧ j = .int .i64 (7 - (q : Int)) ∧ Below w.heap.size w wr) (fun _ j _ => (intOf j + 1).toNat)
   case atStart => exact ⟨0, by omega, ho, rfl, hB⟩
   case round =>
    clear ho hB
    obtain ⟨q, hq, ho, rfl, hB⟩ := hrel
    by_cases hlt2 : q < 8
    ·have Hc : Hid (wr.cell? (ad.add k) = some (.int .u8 ((f k : Nat) : Int))) := hid ((hB.cell (by rw [add_block]; exact had)).trans (HC.out k hlt))
     go_wp2_with (first
      | (with_reducible refine wpl_sl1 rfl 58 _ _ rfl ad n c rfl .i64 _ rfl k rfl 5 Tryd.underlying58 hlt i8 ?_)
      | (with_reducible refine wpl_ld rfl 5 _ rfl _ rfl .u8 Tryd.underlying5 _ Hc.out ?_)
      | (at_builtin; refine wpl_appN rfl _ _ 59 rfl w.heap.size 3 (.int .i64 0) 8 Tryd.underlying59 infoI rfl _ (8 * k + q) _ rfl ho 1 (fun _ => .int .i64 (bits .and .i64 (((f k : Nat) : Int) / 2 ^ (7 - q)) 1)) _ (row1v _ _ rfl) (fun _ => rfl) rfl (by omega) (by omega) hB.size ?_))
     intro v' w1 ho1 hB1 _
     have hB2 := hB.trans hB1
     have ho2 := own_step ho1 (by
      rw [bit_i64 _ _ hfk]
      unfold bitsF
      rw [show (8 * k + q) / 8 = k by omega, show (8 * k + q) % 8 = q by omega])
     clear ho1 hB1 hB ho
     go_wp2_with fail
     exact ⟨⟨q + 1, by omega, ho2, val_int (by omega), hB2⟩, by simp [intOf]; omega⟩
    obtain rfl : q = 8 := by omega
    go_wp2_with fail
    exact ⟨⟨k + 1, by omega, ho, val_int (by omega), hB⟩, by simp [intOf]; omega⟩
  go_wp2_with fail
  obtain rfl : k = n := by omega
  obtain ⟨A', c', rfl, hc', hL'⟩ := ho.lst (by omega)
  go_ret
  exact ⟨A', c', rfl, hc', hL', hB⟩
end Go.Proofs.YtinejbjndpdcmaaDoor.Des
