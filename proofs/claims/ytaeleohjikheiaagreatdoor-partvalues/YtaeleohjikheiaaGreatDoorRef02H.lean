/-
  What lockboxref02.Words returns of a key of 16, 24 or 32 bytes, and of another one.
-/
import Derived.Test.YtaeleohjikheiaaGreatDoorSame02
import Derived.Test.YtaeleohjikheiaaGreatDoorRow1
namespace Go.Proofs.YtaeleohjikheiaaGreatDoor.Aes
open Go.ChangeShapes Go.WideShapes Go.ChangeAt Go.RowKit Mem
theorem infoA4 : (Tryz.prog.info? 162).map (fun i => (i.zero, i.size, i.bytes)) = some (some (.agg (row 4 (b8 fun _ => 0))), 4, 4) := by kernel_rfl
theorem bs4 (x y z u : Int) (w : World) : (Instr.buildSlice 161 1 #[(0, .agg #[.int .u8 x, .int .u8 y, .int .u8 z, .int .u8 u])]).run Tryz.prog w = .ok (.slice (some ⟨w.heap.size, 0, none⟩) 1 1) (w.alloc (.cells #[.int .u8 x, .int .u8 y, .int .u8 z, .int .u8 u] 162)) := by kernel_rfl
theorem bs4' (f : Nat → Nat) (w : World) : (Instr.buildSlice 161 1 #[(0, .agg (row 4 (b8 f)))]).run Tryz.prog w = .ok (.slice (some ⟨w.heap.size, 0, none⟩) 1 1) (w.alloc (.cells (row 4 (b8 f)) 162)) := by
  rw [← row4 f _ _ _ _ rfl rfl rfl rfl]; exact bs4 _ _ _ _ w
theorem cat4 (f T : Nat → Nat) (F : Nat → Nat) (n : Nat) (h1 : ∀ i, i < n * 4 → f i = F i) (h2 : ∀ j, j < 4 → T j = F (n * 4 + j)) : ∀ i, i < (n + 1) * 4 → cat (n * 4) f T i = F i := by
  intro i hi
  unfold cat
  by_cases h : i < n * 4
  · rw [if_pos h, h1 i h]
  · rw [if_neg h, h2 (i - n * 4) (by omega), show n * 4 + (i - n * 4) = i by omega]
theorem cat41 (f T : Nat → Nat) (k : Nat) (h2 : ∀ j, j < 4 → T j = f (4 * k + j)) : ∀ i, i < (4 * k + 4) * 1 → cat (4 * k * 1) f T i = f i := by
  intro i hi
  unfold cat
  by_cases h : i < 4 * k * 1
  · rw [if_pos h]
  · rw [if_neg h, h2 (i - 4 * k * 1) (by omega), show 4 * k + (i - 4 * k * 1) = i by omega]
set_option maxRecDepth 100000 in
theorem rwords_bad (A : Option Addr) (L c : Nat) (hL : rnd L = 0) (w : World) :
    Calls Tryz.prog 92 #[.slice A L c] w fun e w' => e = .returned (.slice none 0 0) ∧ w = w' := by
  have h1 : L ≠ 16 ∧ L ≠ 24 ∧ L ≠ 32 := by
    refine ⟨?_, ?_, ?_⟩ <;> rintro rfl <;> exact absurd hL (by decide)
  have t1 : ((L : Int) != 16) = true := by simp; omega
  have t2 : ((L : Int) != 24) = true := by simp; omega
  have t3 : ((L : Int) != 32) = true := by simp; omega
  clear hL h1
  go_enter Tryz.func92, Tryz.ntmps92
  go_wp2_with fail
  go_ret
  exact ⟨rfl, rfl⟩
theorem bsB4 (x y z u : Int) (w : World) : (Instr.buildSlice 22 4 #[(0, .int .u8 x), (1, .int .u8 y), (2, .int .u8 z), (3, .int .u8 u)]).run Tryz.prog w = .ok (.slice (some ⟨w.heap.size, 0, none⟩) 4 4) (w.alloc (.cells #[.int .u8 x, .int .u8 y, .int .u8 z, .int .u8 u] 5)) := by kernel_rfl
theorem wp_bsB4 {o : Oper} {a : Act} {w : World} {K : Act → World → Prop} {Q : Exit → Act → World → Prop} (p q r s : Operand) (ho : o.op = .buildSlice 22 4 #[(0, p), (1, q), (2, r), (3, s)]) (f : Nat → Nat) (x y z u : Int)
    (hp : a.eval p = .int .u8 x) (hq : a.eval q = .int .u8 y) (hr : a.eval r = .int .u8 z) (hs : a.eval s = .int .u8 u) (h0 : x = (f 0 : Nat)) (h1 : y = (f 1 : Nat)) (h2 : z = (f 2 : Nat)) (h3 : u = (f 3 : Nat))
    (h : K (a.put o.dst (.slice (some ⟨w.heap.size, 0, none⟩) 4 4)) (w.alloc (.cells (row 4 (b8 f)) 5))) : o.wp Tryz.prog a w K Q := by
  rw [← row4 f x y z u h0 h1 h2 h3] at h
  unfold Oper.wp execOp
  simp only [ho, List.map_toArray, List.map_cons, List.map_nil, hp, hq, hr, hs, bsB4, Sem.run_bind, Sem.run_pure, Result.andThen_ok]
  exact h
theorem cs41 (T : Nat → Nat) : row 4 (b8 T) = row (4 * 1) (b8 T) := rfl
theorem hz4 : (Value.agg (row 4 (b8 fun _ => 0))).cells.size = 4 := by simp [Value.cells, row_size]
theorem cs14 (T : Nat → Nat) : row 4 (b8 T) = row (1 * 4) (b8 T) := rfl
theorem ex_old (L : Nat) (key : Nat → Nat) (t i : Nat) (h : i < L + 4 * t) : ex L key t i = ex L key (t + 1) i := by
  show _ = if L + 4 * t ≤ i ∧ i < L + 4 * t + 4 then _ else ex L key t i
  rw [if_neg (by omega)]
theorem ex_new (L : Nat) (key : Nat → Nat) (t j : Nat) (hj : j < 4) : ex L key (t + 1) (L + 4 * t + j) = ex L key t (4 * t + j) ^^^ nw L (ex L key t) t j := by
  show (if L + 4 * t ≤ L + 4 * t + j ∧ L + 4 * t + j < L + 4 * t + 4 then _ else _) = _
  rw [if_pos (by omega), show L + 4 * t + j - L = 4 * t + j by omega, show L + 4 * t + j - (L + 4 * t) = j by omega]
end Go.Proofs.YtaeleohjikheiaaGreatDoor.Aes
