/-
 What Print of package head returns.
-/
import Derived.Test.YtklgngdcihkfjaaDoorHd2
import Derived.Test.YtklgngdcihkfjaaDoorDraw
import Derived.Lib.AppendStr
namespace Go.Proofs.YtklgngdcihkfjaaDoor.Hd
open Mem Go.ChangeShapes Go.WideShapes Go.ChangeAt Go.RowKit
def Tab (w : World) : Prop := Lib.TabIs Tryd.prog w "internal/strconv.uint64pow10" .u64 Lib.pow10Tab
theorem Tab.below {w w' : World} (h : Tab w) (hb : Below w.heap.size w w') : Tab w' := by
 have hg : Tryd.prog.globalNamed "internal/strconv.uint64pow10" = some 1 := by kernel_rfl
 unfold Tab Lib.TabIs World.var? at h ⊢
 rw [hg] at h ⊢
 simp only [Option.bind_some] at h ⊢
 have hlt : 1 < w.heap.size := by
  rcases Nat.lt_or_ge 1 w.heap.size with h' | h'
  ·exact h'
  rw [Array.getElem?_eq_none h'] at h; cases h
 rw [hb.block 1 hlt]
 exact h
theorem below_grow (w : World) (q : Nat) (os : Array Obj) : Below w.heap.size w (Go.Sort.grow (w.drewN q) os) :=
 ⟨rfl, rfl, rfl, by simp [Go.Sort.grow, World.drewN], fun g hg => by
  show (w.heap ++ os)[g]? = _
  rw [Array.getElem?_append_left hg]⟩
def dgF (n i : Nat) : Nat := if i = 0 then 48 + n / 1000 % 10 else if i = 1 then 48 + n / 100 % 10 else if i = 2 then 48 + n / 10 % 10 else 48 + n % 10
theorem dgF_lt (n i : Nat) : dgF n i < 256 := by unfold dgF; split <;> (try split) <;> (try split) <;> omega
theorem itoa_dg (n : Nat) (hn : n ≤ 9999) : (⟨(Lib.itoa (10000 + (n : Int))).toArray⟩ : ByteArray) = strF 5 (fun i => if i = 0 then 49 else dgF n (i - 1)) := by
 rw [strF_mk]
 congr 1
 congr 1
 unfold Lib.itoa
 rw [if_neg (by omega), show (10000 + (n : Int)).toNat = 10000 + n by omega]
 rw [Lib.decDigits, dif_neg (by omega), Lib.decDigits, dif_neg (by omega), Lib.decDigits, dif_neg (by omega), Lib.decDigits, dif_neg (by omega), Lib.decDigits, dif_pos (by omega)]
 have e : List.range 5 = [0, 1, 2, 3, 4] := rfl
 rw [e]
 simp only [List.map_cons, List.map_nil, List.cons_append, List.nil_append, dgF]
 have h4 : (10000 + n) / 10 / 10 / 10 / 10 = 1 := by omega
 have h3 : (10000 + n) / 10 / 10 / 10 % 10 = n / 1000 % 10 := by omega
 have h2 : (10000 + n) / 10 / 10 % 10 = n / 100 % 10 := by omega
 have h1 : (10000 + n) / 10 % 10 = n / 10 % 10 := by omega
 have h0 : (10000 + n) % 10 = n % 10 := by omega
 rw [h4, h3, h2, h1, h0]
 rfl
section
variable {P : Program} {o : Oper} {a : Act} {w w' : World}
theorem wpl_valw {ops : Array Oper} {rest : List Oper} {Q : Exit → Act → World → Prop} (hgd : o.guard = none) (v : Value) (hr : (execOp a.eval o).run P w = .ok (.value v) w') (h : wpList P ops Q rest (a.put o.dst v) w') : wpList P ops Q (o :: rest) a w :=
 wpList_plain hgd fun _ hK => by
  unfold Oper.wp
  rw [hr]
  exact hK _ _ h
theorem exec_bs (t : TypeId) (n : Nat) (l : Array (Nat × Operand)) (ho : o.op = .buildSlice t n l) (vs : Array (Nat × Value)) (hl : l.map (fun x => (x.1, a.eval x.2)) = vs) (v : Value) (hr : (Instr.buildSlice t n vs).run P w = .ok v w') : (execOp a.eval o).run P w = .ok (.value v) w' := by
 subst hl
 unfold execOp
 simp only [ho, Sem.run_bind, hr, Sem.run_pure, Result.andThen_ok]
theorem exec_cutS (ty : TypeId) (x p q : Operand) (ho : o.op = .slice ty x (some p) (some q) none) (n : Nat) (f : Nat → Nat) (y z : Int) (hx : a.eval x = .string (strF n f)) (hp : a.eval p = .int .i64 y) (hq : a.eval q = .int .i64 z) (b c : Nat) (hy : y = b) (hz : z = c) (hbc : b ≤ c) (hc : c ≤ n) (hu : P.underlying ty = some .string) :
  (execOp a.eval o).run P w = .ok (.value (.string (strF (c - b) fun i => f (b + i)))) w := by
 subst hy hz
 have h := run_slice_string (P := P) w ty (strF n f) .i64 .i64 (b : Int) (c : Int) hu (by omega) (by omega) (by rw [strF_size]; omega)
 rw [show (b : Int).toNat = b by omega, show (c : Int).toNat = c by omega, strF_cut hbc hc] at h
 have h' : (Instr.sliceAt ty (.string (strF n f)) (some (.int .i64 (b : Int))) (some (.int .i64 (c : Int))) none).run P w = .ok (.string (strF (c - b) fun i => f (b + i))) w := by
  simp only [Instr.sliceAt, Sem.run_bind, run_underlying hu, Result.andThen_ok]
  exact h
 unfold execOp
 simp only [ho, hx, hp, hq, Option.map_some, Option.map_none, h', Sem.run_bind, Sem.run_pure, Result.andThen_ok]
theorem exec_cutSl (ty : TypeId) (x p : Operand) (ho : o.op = .slice ty x (some p) none none) (n : Nat) (f : Nat → Nat) (y : Int) (hx : a.eval x = .string (strF n f)) (hp : a.eval p = .int .i64 y) (b : Nat) (hy : y = b) (hbc : b ≤ n) (hu : P.underlying ty = some .string) :
  (execOp a.eval o).run P w = .ok (.value (.string (strF (n - b) fun i => f (b + i)))) w := by
 subst hy
 have h := run_slice_string_l (P := P) w ty (strF n f) hu .i64 (b : Int) (by omega) (by rw [strF_size]; omega)
 rw [show (b : Int).toNat = b by omega, strF_size, strF_cut hbc (Nat.le_refl _)] at h
 have h' : (Instr.sliceAt ty (.string (strF n f)) (some (.int .i64 (b : Int))) none none).run P w = .ok (.string (strF (n - b) fun i => f (b + i))) w := by
  simp only [Instr.sliceAt, Sem.run_bind, run_underlying hu, Result.andThen_ok]
  exact h
 unfold execOp
 simp only [ho, hx, hp, Option.map_some, Option.map_none, h', Sem.run_bind, Sem.run_pure, Result.andThen_ok]
theorem exec_cutSh (ty : TypeId) (x p : Operand) (ho : o.op = .slice ty x none (some p) none) (n : Nat) (f : Nat → Nat) (y : Int) (hx : a.eval x = .string (strF n f)) (hp : a.eval p = .int .i64 y) (b : Nat) (hy : y = b) (hbc : b ≤ n) (hu : P.underlying ty = some .string) :
  (execOp a.eval o).run P w = .ok (.value (.string (strF b f))) w := by
 subst hy
 have h := run_slice_string_h (P := P) w ty (strF n f) hu .i64 (b : Int) (by omega) (by rw [strF_size]; omega)
 rw [show (b : Int).toNat = b by omega, strF_cut (by omega) hbc] at h
 have h' : (Instr.sliceAt ty (.string (strF n f)) none (some (.int .i64 (b : Int))) none).run P w = .ok (.string (strF b f)) w := by
  simp only [Instr.sliceAt, Sem.run_bind, run_underlying hu, Result.andThen_ok]
  refine h.trans ?_
  simp
 unfold execOp
 simp only [ho, hx, hp, Option.map_some, Option.map_none, h', Sem.run_bind, Sem.run_pure, Result.andThen_ok]
end
section
variable {P : Program} {o : Oper} {a : Act} {w : World}
theorem exec_ldc (ty : TypeId) (x : Operand) (ho : o.op = .load ty x) (p : Addr) (hx : a.eval x = .pointer (some p)) (v : Value) (hv : w.cell? p = some v) (hu : (∃ k, P.underlying ty = some (.int k)) ∨ P.underlying ty = some .string) :
  (execOp a.eval o).run P w = .ok (.value v) w := by
 have hr : (Instr.loadAt ty (.pointer (some p))).run P w = .ok v w := by
  rcases hu with ⟨k, hu⟩ | hu <;> simp [Instr.loadAt, Instr.sureAddr, loadVar, isAgg, Sem.run_bind, run_underlying hu, hv]
 unfold execOp
 simp only [ho, hx, hr, Sem.run_bind, Sem.run_pure, Result.andThen_ok]
end
theorem row1 (x : Nat) : #[Value.int .u8 (x : Int)] = row (1 * 1) (b8 fun _ => x) := rfl
theorem row2x (x y : Nat) : #[Value.int .u8 (x : Int), .int .u8 (y : Int)] = row (2 * 1) (b8 fun i => if i = 0 then x else y) := rfl
theorem mk16 (w : World) : (Instr.makeSlice 45 (.int .i64 0) (.int .i64 16)).run Tryd.prog w = .ok (.slice (some ⟨w.heap.size, 0, none⟩) 0 16) (w.alloc (.cells (row 16 (b8 fun _ => 0)) 5)) := by kernel_rfl
theorem exec_mk16 {o : Oper} {a : Act} {w : World} (p q : Operand) (ho : o.op = .makeSlice 45 p q) (hp : a.eval p = .int .i64 0) (hq : a.eval q = .int .i64 16) : (execOp a.eval o).run Tryd.prog w = .ok (.value (.slice (some ⟨w.heap.size, 0, none⟩) 0 16)) (w.alloc (.cells (row 16 (b8 fun _ => 0)) 5)) := by
 unfold execOp
 simp only [ho, hp, hq, Sem.run_bind, mk16, Sem.run_pure, Result.andThen_ok]
theorem own16 (w : World) : Own (w.alloc (.cells (row 16 (b8 fun _ => 0)) 5)) w.heap.size 5 1 (.slice (some ⟨w.heap.size, 0, none⟩) 0 16) 0 (fun _ => 0) :=
 ⟨rfl, .inr ⟨w.heap.size, 16, _, rfl, Nat.le_refl _, heap_alloc_new w _, by omega, by unfold maxLen; omega, by rw [row_size], rfl⟩⟩
theorem bsb1 (x : Int) (w : World) : (Instr.buildSlice 45 1 #[(0, .int .u8 x)]).run Tryd.prog w = .ok (.slice (some ⟨w.heap.size, 0, none⟩) 1 1) (w.alloc (.cells #[.int .u8 x] 5)) := by kernel_rfl
theorem bsb2 (x y : Int) (w : World) : (Instr.buildSlice 45 2 #[(0, .int .u8 x), (1, .int .u8 y)]).run Tryd.prog w = .ok (.slice (some ⟨w.heap.size, 0, none⟩) 2 2) (w.alloc (.cells #[.int .u8 x, .int .u8 y] 5)) := by kernel_rfl
theorem strCells_strF (n : Nat) (f : Nat → Nat) (hf : ∀ i, i < n → f i < 256) : Lib.strCells (strF n f) = (List.range n).map (b8 f) := by
 unfold Lib.strCells
 rw [strF_mk]
 simp only [List.map_map]
 apply List.map_congr_left
 intro i hi
 have hi := List.mem_range.1 hi
 simp [b8, UInt8.toNat_ofNat', Nat.mod_eq_of_lt (hf i hi)]
theorem info8h : (Tryd.prog.info? 5).map (fun i => (i.zero, i.size, i.bytes)) = some (some (.int .u8 0), 1, 1) := by kernel_rfl
theorem wpl_mk16 {ops : Array Oper} {rest : List Oper} {o : Oper} {a : Act} {w : World} {Q : Exit → Act → World → Prop} (hgd : o.guard = none) (p q : Operand) (ho : o.op = .makeSlice 45 p q) (hp : a.eval p = .int .i64 0) (hq : a.eval q = .int .i64 16)
  (h : ∀ v' w', Own w' w.heap.size 5 1 v' 0 (fun _ => 0) → Below w.heap.size w w' → wpList Tryd.prog ops Q rest (a.put o.dst v') w') : wpList Tryd.prog ops Q (o :: rest) a w :=
 wpl_valw hgd _ (exec_mk16 p q ho hp hq) (h _ _ (own16 w) ((Below.refl _ _).alloc (Nat.le_refl _) _))
theorem wpl_app_str {ops : Array Oper} {rest : List Oper} {o : Oper} {a : Act} {w : World} {Q : Exit → Act → World → Prop} (hgd : o.guard = none) (p q : Operand) (ho : o.op = .call { callee := .builtin .append, args := #[p, q], argTypes := #[45, 9] }) (base : Nat) (v : Value) (n : Nat) (f : Nat → Nat) (hp : a.eval p = v) (hown : Own w base 5 1 v n f)
  (m : Nat) (g : Nat → Nat) (hq : a.eval q = .string (strF m g)) (hg : ∀ i, i < m → g i < 256) (hn : n + m ≤ 1000000) (hbase : base ≤ w.heap.size)
  (h : ∀ v' w', Own w' base 5 1 v' (n + m) (cat n f g) → Below base w w' → wpList Tryd.prog ops Q rest (a.put o.dst v') w') : wpList Tryd.prog ops Q (o :: rest) a w := by
 obtain ⟨i, hi, hz0, hz1, hz2⟩ := info_parts info8h
 refine Lib.wpList_append_own_string w hgd p q 45 9 ho base 5 i Tryd.underlying45 Tryd.underlying9 hi hz0 hz1 hz2 v n _ hp hown (strF m g) hq (by rw [strF_size]; unfold maxLen; omega) (by rw [strF_size]; omega) hbase ?_
 intro v' w' h1 h2 _
 rw [strF_size, strCells_strF m g hg] at h1
 have hc := cat_list n m f g
 rw [Nat.mul_one] at h1
 rw [hc] at h1
 refine h v' w' (by unfold Own; rw [Nat.mul_one]; exact h1) ?_
 refine (Below.refl base w).grown h2 hbase ?_
 intro k hk
 exact (World.ownsRow.lt hown k hk).1
theorem wrong_n {h : Hd} (hw : wrong h = -1) : prB h.n h.f = true := by
 unfold wrong at hw
 cases hp : prB h.n h.f
 ·rw [hp] at hw
  cases hv : verB h.v <;> simp [hv] at hw
 rfl
theorem wrong_m {h : Hd} (hw : wrong h = -1) : prB h.m h.g = true := by
 unfold wrong at hw
 cases hp : prB h.m h.g
 ·rw [hp] at hw
  cases hv : verB h.v <;> cases h1 : prB h.n h.f <;> cases h2 : algB h.a <;> cases h3 : modB h.k <;> simp [hv, h1, h2, h3] at hw
 rfl
theorem prB_two {n : Nat} {f : Nat → Nat} (h : prB n f = true) : n = 2 := by
 unfold prB at h
 simp at h
 exact h.1.1
theorem dg_lt1 (n i : Nat) : (fun i => (fun i => if i = 0 then 49 else dgF n (i - 1)) (1 + i)) i < 256 := by
 show (if 1 + i = 0 then 49 else dgF n (1 + i - 1)) < 256
 split
 ·omega
 exact dgF_lt _ _
def prF (h : Hd) (n : Nat) : Nat → Nat := fun i =>
 if i = 0 then h.v else if i < 5 then dgF n (i - 1) else if i < 7 then h.f (i - 5) else if i = 7 then h.a else if i = 8 then h.k else if i < 11 then h.g (i - 9) else if i = 11 then h.x else 48
theorem prF_cat (v a k x n : Nat) (f g : Nat → Nat) (i : Nat) (hi : i < 16) :
  cat 12 (cat 11 (cat 9 (cat 7 (cat 5 (cat 1 (cat 0 (fun _ => 0) fun _ => v) fun i => dgF n i) f) fun i => if i = 0 then a else k) g) fun _ => x) (fun _ => 48) i = prF ⟨v, 2, f, a, k, 2, g, x⟩ n i := by
 match i, hi with
 | 0, _ => rfl
 | 1, _ => rfl
 | 2, _ => rfl
 | 3, _ => rfl
 | 4, _ => rfl
 | 5, _ => rfl
 | 6, _ => rfl
 | 7, _ => rfl
 | 8, _ => rfl
 | 9, _ => rfl
 | 10, _ => rfl
 | 11, _ => rfl
 | 12, _ => rfl
 | 13, _ => rfl
 | 14, _ => rfl
 | 15, _ => rfl
 | i + 16, hi => exact absurd hi (by omega)
theorem exec_convS {o : Oper} {a : Act} {w : World} (x : Operand) (ho : o.op = .convert 45 9 x) (v : Value) (hx : a.eval x = v) {base n : Nat} {f : Nat → Nat} (h : Own w base 5 1 v n f) : (execOp a.eval o).run Tryd.prog w = .ok (.value (.string (strF n f))) w := by
 unfold execOp
 simp only [ho, hx, Sem.run_bind, conv_own h, Sem.run_pure, Result.andThen_ok]
set_option maxRecDepth 100000 in
set_option maxHeartbeats 400000 in
theorem print_ok (h : Hd) (ok : h.Ok) (hw : wrong h = -1) (n : Nat) (hn1 : 16 ≤ n) (hn2 : n ≤ 9999) (w : World) (hT : Tab w) :
  Calls Tryd.prog 9 #[.agg (hdC h), .int .i64 (n : Int)] w fun e w' => e = .returned (.tuple #[.string (strF 16 (prF h n)), .nilIface]) ∧ Below w.heap.size w w' := by
 have HR := hid (right_any h ok)
 rw [hw] at HR
 obtain ⟨v, nn, f, a, k, m, g, x⟩ := h
 obtain ⟨hv, hf, ha, hk, hg, hx⟩ := ok
 simp only at hv hf ha hk hg hx
 have hB0 : Below w.heap.size w (w.alloc (.cells (hdC ⟨v, nn, f, a, k, m, g, x⟩) 23)) := (Below.refl _ _).alloc (Nat.le_refl _) _
 have hT0 := hid (hT.below hB0)
 unfold hdC at hB0 hT0 HR ⊢
 simp only at hB0 hT0 HR ⊢
 have HB0 := hid hB0
 clear hB0 hT
 have i1 : decide ((n : Int) < 16) = false := by simp; omega
 have i2 : decide ((9999 : Int) < (n : Int)) = false := by simp; omega
 have i3 : ¬ (n : Int) < 16 := by omega
 have i4 : ¬ (9999 : Int) < (n : Int) := by omega
 go_enter Tryd.func9, Tryd.ntmps9
 go_wp2_with fail
 refine (HR.out _).mono ?_
 rintro e w1 ⟨hB1, v1, rfl, ho⟩
 rcases ho with ⟨-, rfl⟩ | ⟨ho, -⟩
 rotate_left
 ·omega
 have hsz1 := hB1.size
 have hbk := (show Blk w1 w.heap.size 23 _ from (Blk.fresh w 23 #[.int .u8 (v : Int), .string (strF nn f), .int .u8 (a : Int), .int .u8 (k : Int), .string (strF m g), .int .u8 (x : Int)]).below hB1 (by simp))
 have HT1 := hid (hT0.out.below hB1)
 have HB1 := hid (HB0.out.trans (hB1.mono HB0.out.size))
 have hlt : w.heap.size < w1.heap.size := by simp at hsz1; omega
 clear hB1 hT0 HB0 HR hsz1
 have Hlt := hid hlt
 have HC : Hid (∀ W, Below w1.heap.size w1 W → ∀ i u, (#[Value.int .u8 (v : Int), .string (strF nn f), .int .u8 (a : Int), .int .u8 (k : Int), .string (strF m g), .int .u8 (x : Int)] : Array Value)[i]? = some u → W.cell? ⟨w.heap.size, i, none⟩ = some u) := hid (fun W hW i u hu => by rw [(hbk.below hW hlt).cell i]; exact hu)
 have hpr := prB_two (wrong_n hw)
 have hpm := prB_two (wrong_m hw)
 simp only at hpr hpm
 subst hpr hpm
 clear hbk hlt hw
 go_wp2_with (with_reducible refine wpl_mk16 rfl _ _ rfl rfl rfl ?_)
 intro v2 w2 ho2 hB2
 have Ho2 := hid ho2
 have HB2 := hid hB2
 clear ho2 hB2
 go_wp2_with (first
  | (with_reducible refine wpl_valw rfl _ (exec_ldc 5 _ rfl ⟨w.heap.size, 0, none⟩ rfl _ (HC.out _ HB2.out 0 _ rfl) (.inl ⟨_, Tryd.underlying5⟩)) ?_)
  | (with_reducible refine wpl_valw rfl _ (exec_bs 45 1 _ rfl #[(0, .int .u8 (v : Int))] rfl _ (bsb1 _ _)) ?_)
  | (at_builtin; refine wpl_app rfl _ _ 45 rfl w1.heap.size 5 1 (.int .u8 0) Tryd.underlying45 info8h rfl (by omega) _ 0 _ rfl Ho2.out 1 (fun _ => v) _ (row1 v) rfl (by omega) HB2.out.size ?_))
 intro v3 w3 ho3 hB3
 have Ho3 := hid ho3
 have HB3 := hid (HB2.out.trans hB3)
 clear ho3 hB3 Ho2 HB2
 go_wp2_with fail
 refine (Sh.strconv_Itoa _ (by omega) (by omega) _ (HT1.out.below HB3.out)).mono ?_
 rintro e w4 ⟨rfl, q4, os4, hw4⟩
 have hB4 : Below w3.heap.size w3 w4 := by rw [hw4]; exact below_grow _ _ _
 have Ho4 := hid (Ho3.out.below hB4 (Nat.le_refl _))
 have HB4 := hid (HB3.out.trans (hB4.mono HB3.out.size))
 clear hw4 hB4 Ho3 HB3
 rw [itoa_dg n hn2]
 go_wp2_with (first
  | (with_reducible refine wpl_valw rfl _ (exec_cutSl 9 _ _ rfl 5 _ 1 rfl rfl 1 rfl (by omega) Tryd.underlying9) ?_)
  | (at_builtin; refine wpl_app_str rfl _ _ rfl w1.heap.size _ 1 _ rfl Ho4.out 4 _ rfl (fun i _ => dg_lt1 n i) (by omega) HB4.out.size ?_))
 intro v5 w5 ho5 hB5
 have Ho5 := hid ho5
 have HB5 := hid (HB4.out.trans hB5)
 clear ho5 hB5 Ho4 HB4
 go_wp2_with (first
  | (with_reducible refine wpl_valw rfl _ (exec_ldc 9 _ rfl ⟨w.heap.size, 1, none⟩ rfl _ (HC.out _ HB5.out 1 _ rfl) (.inr Tryd.underlying9)) ?_)
  | (at_builtin; refine wpl_app_str rfl _ _ rfl w1.heap.size _ 5 _ rfl Ho5.out 2 f rfl (fun i _ => hf i) (by omega) HB5.out.size ?_))
 intro v6 w6 ho6 hB6
 have Ho6 := hid ho6
 have HB6 := hid (HB5.out.trans hB6)
 clear ho6 hB6 Ho5 HB5
 go_wp2_with (first
  | (with_reducible refine wpl_valw rfl _ (exec_ldc 5 _ rfl ⟨w.heap.size, 2, none⟩ rfl _ (HC.out _ HB6.out 2 _ rfl) (.inl ⟨_, Tryd.underlying5⟩)) ?_)
  | (with_reducible refine wpl_valw rfl _ (exec_ldc 5 _ rfl ⟨w.heap.size, 3, none⟩ rfl _ (HC.out _ HB6.out 3 _ rfl) (.inl ⟨_, Tryd.underlying5⟩)) ?_)
  | (with_reducible refine wpl_valw rfl _ (exec_bs 45 2 _ rfl #[(0, .int .u8 (a : Int)), (1, .int .u8 (k : Int))] rfl _ (bsb2 _ _ _)) ?_)
  | (at_builtin; refine wpl_app rfl _ _ 45 rfl w1.heap.size 5 1 (.int .u8 0) Tryd.underlying45 info8h rfl (by omega) _ 7 _ rfl Ho6.out 2 (fun i => if i = 0 then a else k) _ (row2x a k) rfl (by omega) HB6.out.size ?_))
 intro v7 w7 ho7 hB7
 have Ho7 := hid ho7
 have HB7 := hid (HB6.out.trans hB7)
 clear ho7 hB7 Ho6 HB6
 go_wp2_with (first
  | (with_reducible refine wpl_valw rfl _ (exec_ldc 9 _ rfl ⟨w.heap.size, 4, none⟩ rfl _ (HC.out _ HB7.out 4 _ rfl) (.inr Tryd.underlying9)) ?_)
  | (at_builtin; refine wpl_app_str rfl _ _ rfl w1.heap.size _ 9 _ rfl Ho7.out 2 g rfl (fun i _ => hg i) (by omega) HB7.out.size ?_))
 intro v8 w8 ho8 hB8
 have Ho8 := hid ho8
 have HB8 := hid (HB7.out.trans hB8)
 clear ho8 hB8 Ho7 HB7
 go_wp2_with (first
  | (with_reducible refine wpl_valw rfl _ (exec_ldc 5 _ rfl ⟨w.heap.size, 5, none⟩ rfl _ (HC.out _ HB8.out 5 _ rfl) (.inl ⟨_, Tryd.underlying5⟩)) ?_)
  | (with_reducible refine wpl_valw rfl _ (exec_bs 45 1 _ rfl #[(0, .int .u8 (x : Int))] rfl _ (bsb1 _ _)) ?_)
  | (at_builtin; refine wpl_app rfl _ _ 45 rfl w1.heap.size 5 1 (.int .u8 0) Tryd.underlying45 info8h rfl (by omega) _ 11 _ rfl Ho8.out 1 (fun _ => x) _ (row1 x) rfl (by omega) HB8.out.size ?_))
 intro v9 w9 ho9 hB9
 have Ho9 := hid ho9
 have HB9 := hid (HB8.out.trans hB9)
 clear ho9 hB9 Ho8 HB8
 go_wp2_with (first
  | (at_builtin; refine wpl_app_str rfl _ _ rfl w1.heap.size _ 12 _ rfl Ho9.out 4 (fun _ => 48) rfl (fun _ _ => by omega) (by omega) HB9.out.size ?_))
 intro v10 w10 ho10 hB10
 have Ho10 := hid ho10
 have HB10 := hid (HB9.out.trans hB10)
 clear ho10 hB10 Ho9 HB9
 have hF := Ho10.out.ext (g := prF ⟨v, 2, f, a, k, 2, g, x⟩ n) (fun i hi => prF_cat v a k x n f g i (by omega))
 have HF := hid hF
 clear hF Ho10
 go_wp2_with (with_reducible refine wpl_valw rfl _ (exec_convS _ rfl _ rfl HF.out) ?_)
 go_ret2
 exact ⟨rfl, HB1.out.trans (HB10.out.mono HB1.out.size)⟩
set_option maxRecDepth 100000 in
theorem print_bad (h : Hd) (ok : h.Ok) (hw : 0 ≤ wrong h) (n : Int) (w : World) :
  Calls Tryd.prog 9 #[.agg (hdC h), .int .i64 n] w fun e w' => Below w.heap.size w w' ∧ ∃ g, w.heap.size ≤ g ∧ e = .returned (.tuple #[.string ⟨#[]⟩, .iface 53 (.pointer (some ⟨g, 0, none⟩))]) ∧ Blk w' g 56 #[.int .i64 (wrong h), .iface 44 (.int .i64 6)] := by
 have HR := hid (right_any h ok)
 generalize wrong h = z at *
 obtain ⟨v, nn, f, a, k, m, g, x⟩ := h
 have hB0 : Below w.heap.size w (w.alloc (.cells (hdC ⟨v, nn, f, a, k, m, g, x⟩) 23)) := (Below.refl _ _).alloc (Nat.le_refl _) _
 unfold hdC at hB0 HR ⊢
 simp only at hB0 HR ⊢
 have HB0 := hid hB0
 have hs0 := hB0.size
 clear hB0 ok
 go_enter Tryd.func9, Tryd.ntmps9
 go_wp2_with fail
 refine (HR.out _).mono ?_
 rintro e w1 ⟨hB1, v1, rfl, ho⟩
 rcases ho with ⟨ho, -⟩ | ⟨-, g1, hg1, rfl, hb⟩
 ·omega
 have HB1 := hid (HB0.out.trans (hB1.mono HB0.out.size))
 have Hb := hid hb
 have hg2 : w.heap.size ≤ g1 := Nat.le_trans hs0 hg1
 clear hB1 hb hg1 hs0 HB0 HR
 go_wp2_with fail
 go_ret2
 exact ⟨HB1.out, _, hg2, rfl, Hb.out⟩
set_option maxRecDepth 100000 in
theorem print_arg (h : Hd) (ok : h.Ok) (hw : wrong h = -1) (n : Int) (hn : n < 16 ∨ 9999 < n) (w : World) :
  Calls Tryd.prog 9 #[.agg (hdC h), .int .i64 n] w fun e w' => e = .returned (.tuple #[.string ⟨#[]⟩, .iface 44 (.int .i64 1)]) ∧ Below w.heap.size w w' := by
 have HR := hid (right_any h ok)
 rw [hw] at HR
 obtain ⟨v, nn, f, a, k, m, g, x⟩ := h
 have hB0 : Below w.heap.size w (w.alloc (.cells (hdC ⟨v, nn, f, a, k, m, g, x⟩) 23)) := (Below.refl _ _).alloc (Nat.le_refl _) _
 unfold hdC at hB0 HR ⊢
 simp only at hB0 HR ⊢
 have HB0 := hid hB0
 clear hB0 ok hw
 by_cases h1 : n < 16
 ·go_enter Tryd.func9, Tryd.ntmps9
  go_wp2_with fail
  refine (HR.out _).mono ?_
  rintro e w1 ⟨hB1, v1, rfl, ho⟩
  rcases ho with ⟨-, rfl⟩ | ⟨ho, -⟩
  ·have HB1 := hid (HB0.out.trans (hB1.mono HB0.out.size))
   clear hB1
   go_wp2_with fail
   go_ret2
   exact ⟨rfl, HB1.out⟩
  omega
 have h2 : 9999 < n := by omega
 go_enter Tryd.func9, Tryd.ntmps9
 go_wp2_with fail
 refine (HR.out _).mono ?_
 rintro e w1 ⟨hB1, v1, rfl, ho⟩
 rcases ho with ⟨-, rfl⟩ | ⟨ho, -⟩
 ·have HB1 := hid (HB0.out.trans (hB1.mono HB0.out.size))
  clear hB1
  go_wp2_with fail
  go_ret2
  exact ⟨rfl, HB1.out⟩
 omega
end Go.Proofs.YtklgngdcihkfjaaDoor.Hd
