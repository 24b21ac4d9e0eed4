/-
 Tape Tape2
-/
import Derived.Test.YteapfdnjbgonmaaGreatDoorMemX
import Derived.Laws.AppendOwnNone
import Derived.Deep.RegionHeld3
namespace Go.Proofs.YteapfdnjbgonmaaGreatDoor.Mem
open Go.ChangeShapes Go.WideShapes Go.ChangeAt Go.RowKit
structure Kept (g : Nat) (w w' : World) : Prop where
 os : w'.os = w.os
 tape : w'.tape = w.tape
 output : w'.output = w.output
 size : w.heap.size ≤ w'.heap.size
 block : ∀ k, k < w.heap.size → k ≠ g → w'.heap[k]? = w.heap[k]?
theorem Kept.refl (g : Nat) (w : World) : Kept g w w := ⟨rfl, rfl, rfl, Nat.le_refl _, fun _ _ _ => rfl⟩
theorem Kept.trans {g : Nat} {a b c : World} (h : Kept g a b) (h' : Kept g b c) : Kept g a c :=
 ⟨h'.os.trans h.os, h'.tape.trans h.tape, h'.output.trans h.output, Nat.le_trans h.size h'.size, fun k hk hg => (h'.block k (Nat.lt_of_lt_of_le hk h.size) hg).trans (h.block k hk hg)⟩
theorem Kept.of {g : Nat} {w w' : World} (h : Below w.heap.size w w') : Kept g w w' := ⟨h.os, h.tape, h.output, h.size, fun k hk _ => h.block k hk⟩
theorem Kept.below {g B : Nat} {w w' : World} (h : Kept g w w') (hB : B ≤ g) (hs : B ≤ w.heap.size) : Below B w w' := ⟨h.os, h.tape, h.output, h.size, fun k hk => h.block k (by omega) (by omega)⟩
theorem Kept.setCell {g : Nat} {w w' : World} (h : Kept g w w') (i : Nat) (v : Value) : Kept g w (w'.setCell ⟨g, i, none⟩ v) :=
 ⟨h.os, h.tape, h.output, (by simpa using h.size), fun k hk hg => (heap_setCell_other w' ⟨g, i, none⟩ k v hg).trans (h.block k hk hg)⟩
theorem Kept.blk {g k : Nat} {w w' : World} {t : TypeId} {cs : Array Value} (h : Kept g w w') (hb : Blk w k t cs) (hk : k ≠ g) : Blk w' k t cs := (h.block k hb.lt hk).trans hb
theorem Blk.ne {w : World} {g k : Nat} {t e : TypeId} {cs ds : Array Value} (h : Blk w g t cs) (h' : Blk w k e ds) (hte : t ≠ e) : k ≠ g := by
 rintro rfl
 have := h.out.symm.trans h'.out
 simp at this
 exact hte this.2
theorem Kept.own {g base : Nat} {w w' : World} {t e : TypeId} {cs : Array Value} {v : Value} {n : Nat} {f : Nat → Nat} (h : Kept g w w') (hb : Blk w g t cs) (hte : t ≠ e) (ho : Own w base e 1 v n f) : Own w' base e 1 v n f := by
 obtain ⟨h1, h2 | ⟨k, c, cur, rfl, hbk, hblk, hnc, hcm, hsz, hcs⟩⟩ := ho
 ·exact ⟨h1, .inl h2⟩
 exact ⟨h1, .inr ⟨k, c, cur, rfl, hbk, h.blk hblk (hb.ne hblk hte), hnc, hcm, hsz, hcs⟩⟩
theorem Own.more {base base' : Nat} {w : World} {e : TypeId} {v : Value} {n : Nat} {f : Nat → Nat} (ho : Own w base e 1 v n f) (hB : base' ≤ base) : Own w base' e 1 v n f := by
 obtain ⟨h1, h2 | ⟨k, c, cur, rfl, hbk, hblk⟩⟩ := ho
 ·exact ⟨h1, .inl h2⟩
 exact ⟨h1, .inr ⟨k, c, cur, rfl, Nat.le_trans hB hbk, hblk⟩⟩
theorem Own.slice' {base : Nat} {w : World} {e : TypeId} {v : Value} {n : Nat} {f : Nat → Nat} (ho : Own w base e 1 v n f) : ∃ A c, v = .slice A n c ∧ n ≤ c ∧ (A = none → n = 0 ∧ c = 0) ∧ (∀ ad, A = some ad → ∃ k, ad = ⟨k, 0, none⟩) := by
 rcases ho.form with ⟨rfl, rfl⟩ | ⟨k, c, cur, rfl, _, _, hnc, _⟩
 ·exact ⟨none, 0, rfl, Nat.le_refl _, fun _ => ⟨rfl, rfl⟩, fun ad h => by cases h⟩
 exact ⟨_, c, rfl, hnc, fun h => (by cases h), fun ad h => by cases h; exact ⟨k, rfl⟩⟩
theorem wp_app_gen {P : Program} {o : Oper} {a : Act} {w : World} {K : Act → World → Prop} {Q : Exit → Act → World → Prop} (p q : Operand) (t : TypeId) (ho : o.op = .call { callee := .builtin .append, args := #[p, q], argTypes := #[t, t] }) (base : Nat) (e : TypeId) (z : Value) (ht : P.underlying t = some (.slice e))
  (hinfo : (P.info? e).map (fun i => (i.zero, i.size, i.bytes)) = some (some z, 1, 1)) (hz : z.cells.size = 1) (v : Value) (n : Nat) (f : Nat → Nat) (hp : a.eval p = v) (hown : Own w base e 1 v n f)
  (A : Option Addr) (m c : Nat) (g : Nat → Nat) (B : Nat) (hR : Reads w B A m g) (hA : A = none → m = 0 ∧ c = 0) (hq : a.eval q = .slice A m c) (hn : n + m ≤ 1000000) (hbase : base ≤ w.heap.size)
  (h : ∀ v' w', Own w' base e 1 v' (n + m) (cat n f g) → Below base w w' → K (a.put o.dst v') w') : o.wp P a w K Q := by
 obtain ⟨i, hi, hz0, hz1, hz2⟩ := info_parts hinfo
 rcases A with _ | ad
 ·obtain ⟨rfl, rfl⟩ := hA rfl
  have hrun := run_append_owned_none (P := P) (w := w) base t o.type e i 1 ht hi v n _ hown
  unfold Oper.wp
  simp [execOp, ho, resolve, invoke, builtin, hp, hq, hrun, Result.andThen]
  refine h v w (hown.ext fun j hj => ?_) (Below.refl _ _)
  unfold cat; rw [if_pos (by omega)]
 refine wp_append_own w p q t ho base e i z 1 1 ht hi hz0 hz1 hz2 hz (by omega) v n _ hp hown ad m c ((List.range m).map (b8 g)) hq (by simp) ?_ ?_ ?_ ?_ hbase ?_
 ·intro j u hu
  by_cases hj : j < m
  ·obtain ⟨ad', e', _, hc⟩ := hR (by omega)
   cases e'
   simp [hj] at hu
   subst hu
   exact hc j hj
  rw [List.getElem?_eq_none (by simp; omega)] at hu; cases hu
 ·intro u hu
  simp only [List.mem_map] at hu
  obtain ⟨i, _, rfl⟩ := hu
  rfl
 ·unfold maxLen; omega
 ·omega
 intro v' w' h1 h2 _
 rw [cat_list, ← Nat.mul_one m, ← Nat.add_mul, Nat.mul_one m, Nat.mul_one n] at h1
 refine h v' w' h1 ?_
 refine (Below.refl base w).grown h2 hbase ?_
 intro k hk
 exact (World.ownsRow.lt hown k hk).1
theorem wpl_app_gen {P : Program} {ops : Array Oper} {rest : List Oper} {o : Oper} {a : Act} {w : World} {Q : Exit → Act → World → Prop} (hgd : o.guard = none) (p q : Operand) (t : TypeId) (ho : o.op = .call { callee := .builtin .append, args := #[p, q], argTypes := #[t, t] }) (base : Nat) (e : TypeId) (z : Value) (ht : P.underlying t = some (.slice e))
  (hinfo : (P.info? e).map (fun i => (i.zero, i.size, i.bytes)) = some (some z, 1, 1)) (hz : z.cells.size = 1) (v : Value) (n : Nat) (f : Nat → Nat) (hp : a.eval p = v) (hown : Own w base e 1 v n f)
  (A : Option Addr) (m c : Nat) (g : Nat → Nat) (B : Nat) (hR : Reads w B A m g) (hA : A = none → m = 0 ∧ c = 0) (hq : a.eval q = .slice A m c) (hn : n + m ≤ 1000000) (hbase : base ≤ w.heap.size)
  (h : ∀ v' w', Own w' base e 1 v' (n + m) (cat n f g) → Below base w w' → wpList P ops Q rest (a.put o.dst v') w') : wpList P ops Q (o :: rest) a w :=
 wpList_plain hgd fun _ hK => wp_app_gen p q t ho base e z ht hinfo hz v n f hp hown A m c g B hR hA hq hn hbase fun v' w' h1 h2 => hK _ _ (h v' w' h1 h2)
theorem wpg_app_gen {P : Program} {ops : Array Oper} {rest : List Oper} {o : Oper} {a : Act} {w : World} {Q : Exit → Act → World → Prop} (hw : Region.wanted o (yielded ops a.tmps) = true) (p q : Operand) (t : TypeId) (ho : o.op = .call { callee := .builtin .append, args := #[p, q], argTypes := #[t, t] }) (base : Nat) (e : TypeId) (z : Value) (ht : P.underlying t = some (.slice e))
  (hinfo : (P.info? e).map (fun i => (i.zero, i.size, i.bytes)) = some (some z, 1, 1)) (hz : z.cells.size = 1) (v : Value) (n : Nat) (f : Nat → Nat) (hp : a.eval p = v) (hown : Own w base e 1 v n f)
  (A : Option Addr) (m c : Nat) (g : Nat → Nat) (B : Nat) (hR : Reads w B A m g) (hA : A = none → m = 0 ∧ c = 0) (hq : a.eval q = .slice A m c) (hn : n + m ≤ 1000000) (hbase : base ≤ w.heap.size)
  (h : ∀ v' w', Own w' base e 1 v' (n + m) (cat n f g) → Below base w w' → wpList P ops Q rest (a.put o.dst v') w') : wpList P ops Q (o :: rest) a w :=
 wpList_step fun K hK => by
  rw [if_pos hw]
  exact wp_app_gen p q t ho base e z ht hinfo hz v n f hp hown A m c g B hR hA hq hn hbase fun v' w' h1 h2 => hK _ _ (h v' w' h1 h2)
theorem info8t : (Tryz.prog.info? 5).map (fun i => (i.zero, i.size, i.bytes)) = some (some (.int .u8 0), 1, 1) := by kernel_rfl
set_option maxRecDepth 100000 in
theorem clone_any (A : Option Addr) (n c : Nat) (f : Nat → Nat) (w : World) (hn : n ≤ 100000) (hA : A = none → n = 0 ∧ c = 0) (hR : Reads w w.heap.size A n f) :
  Calls Tryz.prog 58 #[.slice A n c] w fun e w' => ∃ v, e = .returned v ∧ Own w' w.heap.size 5 1 v n f ∧ Below w.heap.size w w' := by
 have hz1 := Go.Lib.run_eql_slice_nil (P := Tryz.prog) w 22 5 none 0 0 0 0 Tryz.underlying22
 have hz2 := fun ad => Go.Lib.run_eql_slice_nil (P := Tryz.prog) w 22 5 (some ad) n c 0 0 Tryz.underlying22
 rcases A with _ | ad
 ·obtain ⟨rfl, rfl⟩ := hA rfl
  go_enter Tryz.func58, Tryz.ntmps58
  go_wp2
  go_ret
  exact ⟨_, rfl, Own.nil _ _ _ _ _, Below.refl _ _⟩
 have HR := hid hR
 have ho := Own.empty w w.heap.size 5 f (Nat.le_refl _)
 have hB : Below w.heap.size w (w.alloc (.cells #[] 5)) := (Below.refl _ _).alloc (Nat.le_refl _) _
 have HR2 := hid (hR.below hB)
 clear hR
 go_enter Tryz.func58, Tryz.ntmps58
 go_wp2_with (at_builtin; refine wpl_app_gen rfl _ _ 22 rfl w.heap.size 5 (.int .u8 0) Tryz.underlying22 info8t rfl _ 0 _ rfl ho (some ad) n c f _ HR2.out hA rfl (by omega) (by simp) ?_)
 intro v' w' ho2 hB2
 go_wp2_with fail
 go_ret
 exact ⟨v', rfl, ho2.ext (fun i _ => by unfold cat; simp), hB.trans hB2⟩
theorem left_any (g : Nat) (A : Option Addr) (n c d : Nat) (w : World) (hb : Blk w g 246 #[.slice A n c, .int .i64 (d : Int)]) (hd : d ≤ n) (hn : n ≤ 1000000) :
  Calls Tryz.prog 193 #[.pointer (some ⟨g, 0, none⟩)] w fun e w' => e = .returned (.int .i64 ((n : Int) - (d : Int))) ∧ Below w.heap.size w w' := by
 have hc0 : w.cell? ⟨g, 0, none⟩ = some (.slice A n c) := hb.cell 0
 have hc1 : w.cell? ⟨g, 1, none⟩ = some (.int .i64 (d : Int)) := hb.cell 1
 clear hb
 go_enter Tryz.func193, Tryz.ntmps193
 go_wp2_with fail
 go_quiet (fail)
 go_wp2_with fail
 go_ret
 exact ⟨rfl, below_drewN (Below.refl _ _) _⟩
theorem ended_any (g : Nat) (A : Option Addr) (n c d : Nat) (w : World) (hb : Blk w g 246 #[.slice A n c, .int .i64 (d : Int)]) (hd : d ≤ n) (hn : n ≤ 1000000) :
  Calls Tryz.prog 194 #[.pointer (some ⟨g, 0, none⟩)] w fun e w' => ∃ k, e = .returned (.iface 81 (.pointer (some ⟨k, 0, none⟩))) ∧ Blk w' k 84 #[.int .i64 ((n : Int) - (d : Int)), .iface 56 (.int .i64 13)] ∧ w.heap.size ≤ k ∧ Below w.heap.size w w' := by
 have Hb := hid hb
 clear hb
 go_enter Tryz.func194, Tryz.ntmps194
 go_wp2_with (go_at_call 193; refine (left_any g A n c d _ Hb.out hd hn).mono ?_; rintro e w1 ⟨rfl, hB⟩)
 go_ret
 exact ⟨_, rfl, Blk.fresh _ _ _, hB.size, hB.alloc hB.size _⟩
theorem refuse_neg (p : Value) (z : Int) (w : World) (hz : z < 0) : Calls Tryz.prog 192 #[p, .int .i64 z] w fun e w' => e = .returned (.iface 56 (.int .i64 1)) ∧ w = w' := by
 go_enter Tryz.func192, Tryz.ntmps192
 go_wp2
 go_ret
 exact ⟨rfl, rfl⟩
theorem refuse_few (g : Nat) (A : Option Addr) (n c d : Nat) (z : Int) (w : World) (hb : Blk w g 246 #[.slice A n c, .int .i64 (d : Int)]) (hd : d ≤ n) (hn : n ≤ 1000000) (hz : (n : Int) - (d : Int) < z) :
  Calls Tryz.prog 192 #[.pointer (some ⟨g, 0, none⟩), .int .i64 z] w fun e w' => ∃ k, e = .returned (.iface 81 (.pointer (some ⟨k, 0, none⟩))) ∧ Blk w' k 84 #[.int .i64 ((n : Int) - (d : Int)), .iface 56 (.int .i64 13)] ∧ w.heap.size ≤ k ∧ Below w.heap.size w w' := by
 have Hb := hid hb
 have hlt := hid hb.lt
 clear hb
 go_enter Tryz.func192, Tryz.ntmps192
 go_wp2_with (first | (go_at_call 193; refine (left_any g A n c d _ Hb.out hd hn).mono ?_; rintro e w1 ⟨rfl, hB⟩) | (go_at_call 194; refine (ended_any g A n c d _ (Hb.out.below hB hlt.out) hd hn).mono ?_; rintro e w2 ⟨k, rfl, hk, hks, hB2⟩))
 go_ret
 exact ⟨_, rfl, hk, Nat.le_trans hB.size hks, hB.trans (hB2.mono hB.size)⟩
theorem refuse_ok (g : Nat) (A : Option Addr) (n c d : Nat) (z : Int) (w : World) (hb : Blk w g 246 #[.slice A n c, .int .i64 (d : Int)]) (hd : d ≤ n) (hn : n ≤ 1000000) (h0 : 0 ≤ z) (hz : z ≤ (n : Int) - (d : Int)) :
  Calls Tryz.prog 192 #[.pointer (some ⟨g, 0, none⟩), .int .i64 z] w fun e w' => e = .returned .nilIface ∧ Below w.heap.size w w' := by
 have Hb := hid hb
 clear hb
 go_enter Tryz.func192, Tryz.ntmps192
 go_wp2_with (go_at_call 193; refine (left_any g A n c d _ Hb.out hd hn).mono ?_; rintro e w1 ⟨rfl, hB⟩)
 go_ret
 exact ⟨rfl, hB⟩
theorem open_bytes' {H : Type} {enc : TypeId × Value → H} {P : Program} {W : World} {t e : TypeId} (ht : P.underlying t = some (.slice e)) (he : P.underlying e = some (.int .u8)) (hc1 : P.cellsOf e = 1) {v : Value} {d : DataW H} {ps : List MemPlace} {r : Reach} {b0 : Nat}
  (hok : Value.okWide P W r b0 t v) (hd : DataW.Trod enc P W 0 (fun _ => true) true t v d ps) : ∃ A len cap, ∃ f : Nat → Nat, v = .slice A len cap ∧ len ≤ cap ∧ Reads W W.heap.size A len f ∧ (∀ i, i < len → f i < 256) ∧ (A = none → len = 0 ∧ cap = 0) := by
 obtain ⟨A, len, cap, f, rfl, h1, h2, h3⟩ := open_bytes ht he hc1 hok hd
 refine ⟨A, len, cap, f, rfl, h1, h2, h3, ?_⟩
 rintro rfl
 obtain ⟨fuel, hf⟩ := hd
 rcases open_ints ht he hc1 hf with ⟨hcs, _⟩ | ⟨x, l, c, zs, hcs, _, hl, hm, hz, _, hcell, hwz⟩
 ·simp [Value.cells] at hcs
  exact hcs
 simp [Value.cells] at hcs
end Go.Proofs.YteapfdnjbgonmaaGreatDoor.Mem
namespace Go.Proofs.YteapfdnjbgonmaaGreatDoor.Mem
open Go.ChangeShapes Go.WideShapes Go.ChangeAt Go.RowKit
def cutA (A : Option Addr) (k c : Nat) : Option Addr := if c = k then A else A.map (·.add k)
theorem size8 (w : World) : (sizeOf 5).run Tryz.prog w = .ok 1 w := by kernel_rfl
theorem elem8 : Tryz.prog.elem 22 = 5 := by kernel_rfl
set_option maxRecDepth 100000 in
theorem run_cut (A : Option Addr) (n c d z : Nat) (x y : Int) (hx : x = (d : Int)) (hy : y = (d : Int) + (z : Int)) (h : d + z ≤ c) (w : World) : (Instr.sliceAt 22 (.slice A n c) (some (.int .i64 x)) (some (.int .i64 y)) none).run Tryz.prog w = .ok (.slice (cutA A d c) z (c - d)) w := by
 subst hx hy
 have hu : Tryz.prog.underlying 22 = some (.slice (Tryz.prog.elem 22)) := by rw [elem8]; exact Tryz.underlying22
 rw [run_sliceAt_slice w 22 _ _ _ _ hu, run_slice_lh w 22 A n c hu .i64 .i64 _ _ (by omega) (by omega) (by omega), elem8, size8]
 simp only [Result.andThen, sliced, cutA]
 congr 1
 have e1 : ((d : Int)).toNat = d := by omega
 have e2 : ((d : Int) + (z : Int)).toNat = d + z := by omega
 rw [e1, e2, Nat.mul_one, Nat.add_sub_cancel_left]
theorem Reads.cutA {w : World} {B : Nat} {A : Option Addr} {n : Nat} {f : Nat → Nat} (h : Reads w B A n f) {k z cap : Nat} (hk : k + z ≤ n) (hc : n ≤ cap) : Reads w B (cutA A k cap) z (fun i => f (k + i)) :=
 Reads.less (h.cut (k := k) (cap := cap) (by omega) hc) (by omega)
theorem cutA_none {A : Option Addr} {n k z c : Nat} (hA : A = none → n = 0 ∧ c = 0) (hk : k + z ≤ n) : cutA A k c = none → z = 0 ∧ c - k = 0 := by
 intro h
 unfold cutA at h
 have : A = none := by
  split at h
  ·exact h
  simpa using h
 have := hA this
 omega
theorem kept_call {g : Nat} {w1 W w2 : World} {x y : Value} (hg : g < w1.heap.size) (h : W.cell? ⟨g, 0, none⟩ = some x ∧ W.cell? ⟨g, 1, none⟩ = some y ∧ Below w1.heap.size w1 W) (hB : Below W.heap.size W w2) :
  w2.cell? ⟨g, 0, none⟩ = some x ∧ w2.cell? ⟨g, 1, none⟩ = some y ∧ Below w1.heap.size w1 w2 :=
 ⟨(hB.cell (p := ⟨g, 0, none⟩) (Nat.lt_of_lt_of_le hg h.2.2.size)).trans h.1, (hB.cell (p := ⟨g, 1, none⟩) (Nat.lt_of_lt_of_le hg h.2.2.size)).trans h.2.1, h.2.2.trans (hB.mono h.2.2.size)⟩
theorem reads_call {w w1 W : World} {A : Option Addr} {n c d z : Nat} {f : Nat → Nat} {p q : Prop} (hR : Reads w1 w.heap.size A n f) (hs : w.heap.size ≤ w1.heap.size) (hd : d + z ≤ n) (hc : n ≤ c) (h : p ∧ q ∧ Below w1.heap.size w1 W) : Reads W W.heap.size (cutA A d c) z (fun i => f (d + i)) :=
 (((hR.more hs).below h.2.2).more h.2.2.size).cutA hd hc
theorem take_neg (p : Value) (z : Int) (w : World) (hz : z < 0) : Calls Tryz.prog 189 #[p, .int .i64 z] w fun e w' => e = .returned (.tuple #[.slice none 0 0, .iface 56 (.int .i64 1)]) ∧ w = w' := by
 go_enter Tryz.func189, Tryz.ntmps189
 go_wp2_with (go_at_call 192; refine (refuse_neg p z _ hz).mono ?_; rintro e w1 ⟨rfl, rfl⟩)
 go_ret2
 exact ⟨rfl, rfl⟩
theorem take_few (g : Nat) (A : Option Addr) (n c d : Nat) (z : Int) (w : World) (hb : Blk w g 246 #[.slice A n c, .int .i64 (d : Int)]) (hd : d ≤ n) (hn : n ≤ 1000000) (hz : (n : Int) - (d : Int) < z) :
  Calls Tryz.prog 189 #[.pointer (some ⟨g, 0, none⟩), .int .i64 z] w fun e w' => ∃ k, e = .returned (.tuple #[.slice none 0 0, .iface 81 (.pointer (some ⟨k, 0, none⟩))]) ∧ Blk w' k 84 #[.int .i64 ((n : Int) - (d : Int)), .iface 56 (.int .i64 13)] ∧ w.heap.size ≤ k ∧ Below w.heap.size w w' := by
 have Hb := hid hb
 clear hb
 go_enter Tryz.func189, Tryz.ntmps189
 go_wp2_with (go_at_call 192; refine (refuse_few g A n c d z _ Hb.out hd hn hz).mono ?_; rintro e w1 ⟨k, rfl, hk, hks, hB⟩)
 go_ret2
 exact ⟨k, rfl, hk, hks, hB⟩
set_option maxRecDepth 100000 in
set_option maxHeartbeats 1000000 in
theorem take_ok (g base : Nat) (v : Value) (n d z : Nat) (f : Nat → Nat) (w : World) (hb : Blk w g 246 #[v, .int .i64 (d : Int)]) (ho : Own w base 5 1 v n f) (hd : d + z ≤ n) (hn : n ≤ 100000) :
  Calls Tryz.prog 189 #[.pointer (some ⟨g, 0, none⟩), .int .i64 (z : Int)] w fun e w' => ∃ vx, e = .returned (.tuple #[vx, .nilIface]) ∧ Own w' w.heap.size 5 1 vx z (fun i => f (d + i)) ∧ Kept g w w' ∧ Blk w' g 246 #[v, .int .i64 ((d + z : Nat) : Int)] := by
 obtain ⟨A, c, rfl, hc, hA, -⟩ := ho.slice'
 have HR := hid ho.reads
 have Hb := hid hb
 have Ho := hid ho
 clear ho hb
 go_enter Tryz.func189, Tryz.ntmps189
 go_wp2_with (go_at_call 192; refine (refuse_ok g A n c d (z : Int) _ Hb.out (by omega) (by omega) (by omega) (by omega)).mono ?_; rintro e w1 ⟨rfl, hB⟩)
 have hb1 := Hb.out.below hB Hb.out.lt
 have HR1 := hid (HR.out.below hB)
 have hc0 : w1.cell? ⟨g, 0, none⟩ = some (.slice A n c) := hb1.cell 0
 have hc1 : w1.cell? ⟨g, 1, none⟩ = some (.int .i64 (d : Int)) := hb1.cell 1
 have Hb1 := hid hb1
 have hcut := fun w => run_cut A n c d z _ _ rfl rfl (by omega) w
 have HA := hid (cutA_none hA hd)
 clear hb1 hA
 have hwr : IntKind.i64.wrap ((d : Int) + (z : Int)) = (d : Int) + (z : Int) := wrap_i64 _ _ rfl (by omega) (by omega)
 have hgl := hid (Nat.lt_of_lt_of_le Hb.out.lt hB.size)
 go_region_held3 (fun W => W.cell? ⟨g, 0, none⟩ = some (.slice A n c) ∧ W.cell? ⟨g, 1, none⟩ = some (.int .i64 (d : Int)) ∧ Below w1.heap.size w1 W)
  (first
   | exact ⟨hc0, hc1, (Below.refl _ _).drew⟩
   | (exact kept_call hgl.out (by assumption) hB2))
  (first
   | (go_at_call 58; refine (clone_any (cutA A d c) z (c - d) (fun i => f (d + i)) _ (by omega) HA.out (reads_call HR1.out hB.size hd hc (by assumption))).mono ?_; rintro e w2 ⟨vx, rfl, hox, hB2⟩))
 rename_i hH
 have h21 := hH.2.1
 have hB12 := hid hH.2.2
 have hb2 := hid (Hb1.out.below hH.2.2 Hb1.out.lt)
 have hfr := hb2.out.free 1
 clear hcut hc0 hc1 hH
 go_wp2_with fail
 go_ret2
 have hk2 : Kept g w2 (w2.setCell ⟨g, 1, none⟩ (.int .i64 ((d : Int) + (z : Int)))) := (Kept.refl g w2).setCell 1 _
 have e : (d : Int) + (z : Int) = ((d + z : Nat) : Int) := by omega
 refine ⟨vx, rfl, hk2.own hb2.out (by decide) (hox.more hB.size), (Kept.of hB).trans ((Kept.of hB12.out).trans hk2), ?_⟩
 rw [← e]
 exact hb2.out.setCell 1 _
end Go.Proofs.YteapfdnjbgonmaaGreatDoor.Mem
