/-
 Lists in memory: slices whose cells are known, with the type of the block that they lie in; append to a slice of the call's own, of whatever one-cell elements.
-/
import Derived.Test.YtinejbjndpdcmaaDoorMemX
namespace Go.Proofs.YtinejbjndpdcmaaDoor.Mem
open Go.ChangeShapes Go.WideShapes Go.ChangeAt Go.RowKit
def Lst (w : World) (e : TypeId) (A : Option Addr) (n : Nat) (c : Nat → Value) : Prop := ∃ g off cur, A = some ⟨g, off, none⟩ ∧ Blk w g e cur ∧ ∀ i, i < n → cur[off + i]? = some (c i)
section
variable {w w' : World} {e : TypeId} {A : Option Addr} {n : Nat} {c d : Nat → Value}
theorem Lst.below {B : Nat} (h : Lst w e A n c) (hb : Below B w w') (hB : w.heap.size ≤ B) : Lst w' e A n c := by
 obtain ⟨g, off, cur, rfl, hg, hc⟩ := h
 exact ⟨g, off, cur, rfl, hg.below hb (Nat.lt_of_lt_of_le hg.lt hB), hc⟩
theorem Lst.drewN (h : Lst w e A n c) (k : Nat) : Lst (w.drewN k) e A n c := h
theorem Lst.drew (h : Lst w e A n c) : Lst w.drew e A n c := h
theorem Lst.alloc (h : Lst w e A n c) (o : Obj) : Lst (w.alloc o) e A n c := h.below ((Below.refl _ _).alloc (Nat.le_refl _) o) (Nat.le_refl _)
theorem Lst.ext (h : Lst w e A n c) (hcd : ∀ i, i < n → c i = d i) : Lst w e A n d := by
 obtain ⟨g, off, cur, rfl, hg, hc⟩ := h
 exact ⟨g, off, cur, rfl, hg, fun i hi => by rw [hc i hi, hcd i hi]⟩
theorem Lst.less {m : Nat} (h : Lst w e A n c) (hm : m ≤ n) : Lst w e A m c := by
 obtain ⟨g, off, cur, rfl, hg, hc⟩ := h
 exact ⟨g, off, cur, rfl, hg, fun i hi => hc i (by omega)⟩
theorem Lst.grown {k : Option Nat} {e' : TypeId} {cs : Array Value} (h : Lst w e A n c) (hb : w.grownBy w' k) (hk : ∀ g, k = some g → Blk w g e' cs) (hne : e' ≠ e) : Lst w' e A n c := by
 obtain ⟨g, off, cur, rfl, hg, hc⟩ := h
 refine ⟨g, off, cur, rfl, hg.grown hb fun hgk => ?_, hc⟩
 have h2 := (hk g hgk.symm).out
 rw [hg.out] at h2
 injection h2 with h2
 injection h2 with _ h3
 exact hne h3.symm
end
theorem Lst.at {w : World} {e : TypeId} {ad : Addr} {n : Nat} {c : Nat → Value} (h : Lst w e (some ad) n c) (i : Nat) (hi : i < n) : w.cell? (ad.add i) = some (c i) := by
 obtain ⟨g, off, cur, he, hg, hc⟩ := h
 injection he with he
 subst he
 rw [show (⟨g, off, none⟩ : Addr).add i = ⟨g, off + i, none⟩ by unfold Addr.add; split <;> simp_all, hg.cell, hc i hi]
theorem Lst.cut {w : World} {e : TypeId} {ad : Addr} {n : Nat} {c : Nat → Value} (h : Lst w e (some ad) n c) (k : Nat) (hk : k ≤ n) : Lst w e (some ⟨ad.block, ad.off + k, none⟩) (n - k) (fun i => c (k + i)) := by
 obtain ⟨g, off, cur, he, hg, hc⟩ := h
 injection he with he
 subst he
 exact ⟨g, off + k, cur, rfl, hg, fun i hi => by rw [Nat.add_assoc]; exact hc _ (by omega)⟩
theorem Lst.some {w : World} {e : TypeId} {A : Option Addr} {n : Nat} {c : Nat → Value} (h : Lst w e A n c) : ∃ ad, A = some ad ∧ ad.block < w.heap.size := by
 obtain ⟨g, off, cur, rfl, hg, _⟩ := h
 exact ⟨_, rfl, hg.lt⟩
theorem Blk.lst {w : World} {g : Nat} {e : TypeId} {n : Nat} {c : Nat → Value} (h : Blk w g e (row n c)) : Lst w e (.some ⟨g, 0, none⟩) n c := ⟨g, 0, _, rfl, h, fun i hi => by rw [Nat.zero_add, row_get _ _ _ hi]⟩
def OwnV (w : World) (base : Nat) (e : TypeId) (v : Value) (n : Nat) (c : Nat → Value) : Prop := w.ownsRow base e 1 v n ((List.range n).map c)
section
variable {w w' : World} {base : Nat} {e : TypeId} {v : Value} {n : Nat} {c : Nat → Value}
theorem OwnV.nil (w : World) (base : Nat) (e : TypeId) (c : Nat → Value) : OwnV w base e (.slice none 0 0) 0 c := World.ownsRow_nil w base e 1
theorem OwnV.alloc (h : OwnV w base e v n c) (o : Obj) : OwnV (w.alloc o) base e v n c := World.ownsRow.alloc h o
theorem OwnV.drewN (h : OwnV w base e v n c) (k : Nat) : OwnV (w.drewN k) base e v n c := h
theorem OwnV.ext {d : Nat → Value} (h : OwnV w base e v n c) (hcd : ∀ i, i < n → c i = d i) : OwnV w base e v n d := by
 unfold OwnV at *
 have : (List.range n).map d = (List.range n).map c := by
  apply List.map_congr_left
  intro i hi
  rw [hcd i (List.mem_range.1 hi)]
 rw [this]; exact h
theorem OwnV.form (h : OwnV w base e v n c) : (v = .slice none 0 0 ∧ n = 0) ∨ ∃ g cap cur, v = .slice (some ⟨g, 0, none⟩) n cap ∧ base ≤ g ∧ g < w.heap.size ∧ n ≤ cap ∧ Blk w g e cur ∧ ∀ i, i < n → cur[i]? = some (c i) := by
 rcases h.2 with ⟨hv, hn⟩ | ⟨g, cap, cur, hv, hb, hg, hnc, _, hs, ht⟩
 ·exact .inl ⟨hv, hn⟩
 refine .inr ⟨g, cap, cur, hv, hb, (show Blk w g e cur from hg).lt, hnc, hg, fun i hi => ?_⟩
 have e1 := congrArg (fun l : List Value => l[i]?) ht
 simp only [List.getElem?_take, Nat.mul_one, hi, if_true, List.getElem?_map, List.getElem?_range, Option.map_some, Array.getElem?_toList] at e1
 exact e1
theorem OwnV.below {B : Nat} (h : OwnV w base e v n c) (hb : Below B w w') (hB : w.heap.size ≤ B) : OwnV w' base e v n c := by
 refine ⟨h.1, ?_⟩
 rcases h.2 with h2 | ⟨g, cap, cur, hv, hbg, hg, r⟩
 ·exact .inl h2
 have hlt : g < w.heap.size := (show Blk w g e cur from hg).lt
 exact .inr ⟨g, cap, cur, hv, hbg, (hb.block g (by omega)).trans hg, r⟩
theorem OwnV.lst (h : OwnV w base e v n c) (hn : 0 < n) : ∃ A cap, v = .slice A n cap ∧ n ≤ cap ∧ Lst w e A n c := by
 rcases h.form with ⟨_, rfl⟩ | ⟨g, cap, cur, rfl, _, _, hc, hb, hcur⟩
 ·omega
 exact ⟨_, _, rfl, hc, g, 0, cur, rfl, hb, fun i hi => by rw [Nat.zero_add]; exact hcur i hi⟩
theorem OwnV.empty (w : World) (base : Nat) (e : TypeId) (c : Nat → Value) (hb : base ≤ w.heap.size) : OwnV (w.alloc (.cells #[] e)) base e (.slice (some ⟨w.heap.size, 0, none⟩) 0 0) 0 c :=
 ⟨by simp, .inr ⟨w.heap.size, 0, #[], rfl, hb, heap_alloc_new w _, Nat.le_refl _, by unfold maxLen; omega, by simp, by simp⟩⟩
theorem OwnV.setBelow (h : OwnV w base e v n c) {p : Addr} (hp : p.block < base) (u : Value) : OwnV (w.setCell p u) base e v n c := ownsRow_setCell_below h hp u
theorem OwnV.block (h : OwnV w base e v n c) : ∃ cs, ∀ g, v.ownBlock = some g → Blk w g e cs := by
 rcases h.form with ⟨rfl, _⟩ | ⟨g, cap, cur, rfl, _, _, _, hb, _⟩
 ·exact ⟨#[], fun g hg => by simp [Value.ownBlock] at hg⟩
 refine ⟨cur, fun g' hg => ?_⟩
 simp [Value.ownBlock] at hg
 subst hg
 exact hb
end
def catV (m : Nat) (f g : Nat → Value) : Nat → Value := fun i => if i < m then f i else g (i - m)
theorem catV_list (a b : Nat) (f g : Nat → Value) : (List.range a).map f ++ (List.range b).map g = (List.range (a + b)).map (catV a f g) := by
 apply List.ext_getElem?
 intro i
 by_cases h : i < a
 ·rw [List.getElem?_append_left (by simp; exact h)]
  simp [h, show i < a + b by omega, catV]
 rw [List.getElem?_append_right (by simp; omega)]
 by_cases h2 : i < a + b
 ·simp [show i - a < b by omega, h2, catV, h]
 rw [List.getElem?_eq_none (by simp; omega), List.getElem?_eq_none (by simp; omega)]
theorem catV_iv (kd : IntKind) (m : Nat) (f g : Nat → Nat) : catV m (iv kd f) (iv kd g) = iv kd (cat m f g) := by
 funext i; unfold catV iv cat; split <;> rfl
section
variable {P : Program} {o : Oper} {a : Act} {w : World}
theorem wp_appV {K : Act → World → Prop} {Q : Exit → Act → World → Prop} (p q : Operand) (t : TypeId) (ho : o.op = .call { callee := .builtin .append, args := #[p, q], argTypes := #[t, t] }) (base : Nat) (e : TypeId) (z : Value) (bytes : Nat) (ht : P.underlying t = some (.slice e))
  (hinfo : (P.info? e).map (fun i => (i.zero, i.size, i.bytes)) = some (some z, 1, bytes)) (hz : z.cells.size = 1) (v : Value) (n : Nat) (f : Nat → Value) (hp : a.eval p = v) (hown : OwnV w base e v n f)
  (ad : Addr) (m c : Nat) (g : Nat → Value) (hR : ∀ i, i < m → w.cell? (ad.add i) = some (g i)) (h1 : ∀ i, (g i).oneCell' = true) (hq : a.eval q = .slice (some ad) m c) (hn : n + m ≤ 1000000) (hby : bytes ≤ 1000) (hbase : base ≤ w.heap.size)
  (h : ∀ v' w', OwnV w' base e v' (n + m) (catV n f g) → Below base w w' → w.grownBy w' v.ownBlock → K (a.put o.dst v') w') : o.wp P a w K Q := by
 obtain ⟨i, hi, hz0, hz1, hz2⟩ := info_parts hinfo
 refine wp_append_own w p q t ho base e i z 1 bytes ht hi hz0 hz1 hz2 hz (by omega) v n _ hp hown ad m c ((List.range m).map g) hq (by simp) ?_ ?_ ?_ ?_ hbase ?_
 ·intro j u hu
  by_cases hj : j < m
  ·simp [hj] at hu
   subst hu
   exact hR j hj
  rw [List.getElem?_eq_none (by simp; omega)] at hu; cases hu
 ·intro u hu
  simp only [List.mem_map] at hu
  obtain ⟨i, _, rfl⟩ := hu
  exact h1 i
 ·unfold maxLen; omega
 ·calc (n + m) * bytes ≤ 1000000 * 1000 := Nat.mul_le_mul hn hby
   _ ≤ _ := by omega
 intro v' w' h2 h3 _
 rw [catV_list] at h2
 refine h v' w' h2 ?_ h3
 refine (Below.refl base w).grown h3 hbase ?_
 intro k hk
 exact (World.ownsRow.lt hown k hk).1
theorem wpl_appV {ops : Array Oper} {rest : List Oper} {Q : Exit → Act → World → Prop} (hgd : o.guard = none) (p q : Operand) (t : TypeId) (ho : o.op = .call { callee := .builtin .append, args := #[p, q], argTypes := #[t, t] }) (base : Nat) (e : TypeId) (z : Value) (bytes : Nat) (ht : P.underlying t = some (.slice e))
  (hinfo : (P.info? e).map (fun i => (i.zero, i.size, i.bytes)) = some (some z, 1, bytes)) (hz : z.cells.size = 1) (v : Value) (n : Nat) (f : Nat → Value) (hp : a.eval p = v) (hown : OwnV w base e v n f)
  (ad : Addr) (m c : Nat) (g : Nat → Value) (hR : ∀ i, i < m → w.cell? (ad.add i) = some (g i)) (h1 : ∀ i, (g i).oneCell' = true) (hq : a.eval q = .slice (some ad) m c) (hn : n + m ≤ 1000000) (hby : bytes ≤ 1000) (hbase : base ≤ w.heap.size)
  (h : ∀ v' w', OwnV w' base e v' (n + m) (catV n f g) → Below base w w' → w.grownBy w' v.ownBlock → wpList P ops Q rest (a.put o.dst v') w') : wpList P ops Q (o :: rest) a w :=
 wpList_plain hgd fun _ hK => wp_appV p q t ho base e z bytes ht hinfo hz v n f hp hown ad m c g hR h1 hq hn hby hbase fun v' w' h2 h3 h4 => hK _ _ (h v' w' h2 h3 h4)
theorem wpl_appN {ops : Array Oper} {rest : List Oper} {Q : Exit → Act → World → Prop} (hgd : o.guard = none) (p q : Operand) (t : TypeId) (ho : o.op = .call { callee := .builtin .append, args := #[p, q], argTypes := #[t, t] }) (base : Nat) (e : TypeId) (z : Value) (bytes : Nat) (ht : P.underlying t = some (.slice e))
  (hinfo : (P.info? e).map (fun i => (i.zero, i.size, i.bytes)) = some (some z, 1, bytes)) (hz : z.cells.size = 1) (v : Value) (n : Nat) (f : Nat → Value) (hp : a.eval p = v) (hown : OwnV w base e v n f)
  (m : Nat) (g : Nat → Value) (cs : Array Value) (hcs : cs = row m g) (h1 : ∀ i, (g i).oneCell' = true) (hq : a.eval q = .slice (some ⟨w.heap.size, 0, none⟩) m m) (hn : n + m ≤ 1000000) (hby : bytes ≤ 1000) (hbase : base ≤ w.heap.size)
  (h : ∀ v' w', OwnV w' base e v' (n + m) (catV n f g) → Below base w w' → (w.alloc (.cells cs e)).grownBy w' v.ownBlock → wpList P ops Q rest (a.put o.dst v') w') : wpList P ops Q (o :: rest) a (w.alloc (.cells cs e)) := by
 subst hcs
 refine wpl_appV hgd p q t ho base e z bytes ht hinfo hz v n f hp (hown.alloc _) ⟨w.heap.size, 0, none⟩ m m g (fun i hi => ?_) h1 hq hn hby (by simp; omega) fun v' w' h2 h3 h4 => h v' w' h2 (((Below.refl base w).alloc hbase _).trans h3) h4
 rw [add_zero_off, (Blk.fresh w e (row m g)).cell, row_get _ _ _ hi]
end
theorem row1v (c : Nat → Value) (v : Value) (h : v = c 0) : #[v] = row 1 c := by
 subst h
 apply row_of (by rfl)
 intro i hi
 obtain rfl : i = 0 := by omega
 rfl
end Go.Proofs.YtinejbjndpdcmaaDoor.Mem
