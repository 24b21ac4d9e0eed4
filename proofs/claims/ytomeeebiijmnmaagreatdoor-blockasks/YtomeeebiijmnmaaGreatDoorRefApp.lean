/-
  Rows of three cells, appended: what lockboxref05.Ask needs where a block is drawn.
-/
import Derived.Test.YtomeeebiijmnmaaGreatDoorRefEnd
import Derived.Test.YtomeeebiijmnmaaGreatDoorDraw
namespace Go.Proofs.YtomeeebiijmnmaaGreatDoor.Bk
open Mem Go.ChangeShapes Go.WideShapes Go.ChangeAt Go.RowKit
theorem infoRow : (Tryz.prog.info? 99).map (fun i => (i.zero, i.size, i.bytes)) = some (some (.agg #[.slice none 0 0, .slice none 0 0, .slice none 0 0]), 3, 72) := by kernel_rfl
/-- the cells of rows, as a list -/
theorem RowsAt.cells {w : World} {B Lk : Nat} {A : Option Addr} {R : List Rw} (h : RowsAt w B A Lk R) : ∃ xs : List Value, xs.length = R.length * 3 ∧ (∀ u ∈ xs, u.oneCell' = true) ∧ (∀ j u, xs[j]? = some u → ∃ ad, A = some ad ∧ w.cell? (ad.add j) = some u) ∧ ∀ i, ∀ hi : i < R.length, RowC w B Lk R[i] (fun j => xs.getD (i * 3 + j) undef) := by
  have h1 : ∀ i : Nat, ∃ c : Nat → Value, ∀ hi : i < R.length, (∀ j, j < 3 → ∃ ad, A = some ad ∧ w.cell? (ad.add (i * 3 + j)) = some (c j)) ∧ RowC w B Lk R[i] c := fun i => by
    by_cases hi : i < R.length
    · obtain ⟨ad, e, _, c, hc, hr⟩ := h i hi
      exact ⟨c, fun _ => ⟨fun j hj => ⟨ad, e, by rw [← add_add]; exact hc j hj⟩, hr⟩⟩
    · exact ⟨fun _ => undef, fun hi' => absurd hi' hi⟩
  obtain ⟨C, hC⟩ := Classical.axiomOfChoice h1
  have hget : ∀ i j, i < R.length → j < 3 → ((List.range (R.length * 3)).map fun k => C (k / 3) (k % 3)).getD (i * 3 + j) undef = C i j := fun i j hi hj => by
    have hl : i * 3 + j < R.length * 3 := by omega
    simp [List.getD_eq_getElem?_getD, hl, show (i * 3 + j) / 3 = i by omega, show (i * 3 + j) % 3 = j by omega]
  have hrow : ∀ i, ∀ hi : i < R.length, RowC w B Lk R[i] (fun j => ((List.range (R.length * 3)).map fun k => C (k / 3) (k % 3)).getD (i * 3 + j) undef) := fun i hi => by
    obtain ⟨⟨Ak, ck, f, k1, k2, k3, k4⟩, ⟨A1, c1, k5, k6, k7⟩, ⟨A2, c2, k8, k9, k10⟩⟩ := (hC i hi).2
    exact ⟨⟨Ak, ck, f, by rw [hget i 0 hi (by omega), k1], k2, k3, k4⟩, ⟨A1, c1, by rw [hget i 1 hi (by omega), k5], k6, k7⟩, ⟨A2, c2, by rw [hget i 2 hi (by omega), k8], k9, k10⟩⟩
  refine ⟨(List.range (R.length * 3)).map fun k => C (k / 3) (k % 3), by simp, ?_, ?_, hrow⟩
  · intro u hu
    simp only [List.mem_map, List.mem_range] at hu
    obtain ⟨k, hk, rfl⟩ := hu
    obtain ⟨⟨Ak, ck, f, k1, _⟩, ⟨A1, c1, k5, _⟩, ⟨A2, c2, k8, _⟩⟩ := (hC (k / 3) (by omega)).2
    have h3 : k % 3 = 0 ∨ k % 3 = 1 ∨ k % 3 = 2 := by omega
    rcases h3 with h3 | h3 | h3
    · rw [h3, k1]; rfl
    · rw [h3, k5]; rfl
    · rw [h3, k8]; rfl
  · intro j u hu
    by_cases hj : j < R.length * 3
    · simp [hj] at hu
      subst hu
      obtain ⟨ad, e, hc⟩ := (hC (j / 3) (by omega)).1 (j % 3) (by omega)
      exact ⟨ad, e, by rw [show j / 3 * 3 + j % 3 = j by omega] at hc; exact hc⟩
    · rw [List.getElem?_eq_none (by simp; omega)] at hu; cases hu
/-- a slice of rows of one's own -/
def OwnL (w : World) (base : Nat) (v : Value) (n : Nat) (xs : List Value) : Prop := w.ownsRow base 99 3 v n xs
theorem OwnL.empty (w : World) (base : Nat) (hb : base ≤ w.heap.size) : OwnL (w.alloc (.cells #[] 99)) base (.slice (some ⟨w.heap.size, 0, none⟩) 0 0) 0 [] :=
  ⟨rfl, .inr ⟨w.heap.size, 0, #[], rfl, hb, heap_alloc_new w _, Nat.le_refl _, Nat.zero_le _, rfl, rfl⟩⟩
theorem OwnL.alloc {w : World} {base n : Nat} {v : Value} {xs : List Value} (h : OwnL w base v n xs) (o : Obj) : OwnL (w.alloc o) base v n xs := World.ownsRow.alloc h o
theorem OwnL.rows {w : World} {base n Lk B : Nat} {v : Value} {xs : List Value} {R : List Rw} (h : OwnL w base v n xs) (hn : n = R.length) (hr : ∀ i, ∀ hi : i < R.length, RowC w B Lk R[i] (fun j => xs.getD (i * 3 + j) undef)) (hB : w.heap.size ≤ B) : ∃ A c, v = .slice A R.length c ∧ RowsAt w B A Lk R := by
  obtain ⟨hl, ⟨rfl, h0⟩ | ⟨g, c, cur, rfl, hg, hblk, hnc, hcm, hsz, hcs⟩⟩ := h
  · refine ⟨none, 0, by rw [← hn, h0], fun i hi => by omega⟩
  · subst hn
    refine ⟨some ⟨g, 0, none⟩, c, rfl, fun i hi => ⟨⟨g, 0, none⟩, rfl, ?_, _, fun j hj => ?_, hr i hi⟩⟩
    · have : Blk w g 99 cur := hblk
      have := this.lt
      show g < B
      omega
    · have hb : Blk w g 99 cur := hblk
      rw [add_add, add_zero_off, hb.cell]
      have e1 := congrArg (fun l : List Value => l[i * 3 + j]?) hcs
      have hlt : i * 3 + j < R.length * 3 := by omega
      simp only [List.getElem?_take, hlt, if_true, Array.getElem?_toList] at e1
      rw [e1, List.getD_eq_getElem?_getD, List.getElem?_eq_getElem (by rw [hl]; exact hlt)]
      rfl
theorem wp_appL {o : Oper} {a : Act} {w : World} {K : Act → World → Prop} {Q : Exit → Act → World → Prop} (p q : Operand) (ho : o.op = .call { callee := .builtin .append, args := #[p, q], argTypes := #[34, 34] }) (base : Nat) (v : Value) (n : Nat) (xs : List Value) (hp : a.eval p = v) (hown : OwnL w base v n xs)
    (A : Option Addr) (m c : Nat) (news : List Value) (hq : a.eval q = .slice A m c) (hl : news.length = m * 3) (hA : A = none → m = 0 ∧ c = 0) (hnews : ∀ j u, news[j]? = some u → ∃ ad, A = some ad ∧ w.cell? (ad.add j) = some u) (h1 : ∀ u ∈ news, u.oneCell' = true) (hn : n + m ≤ 100000) (hbase : base ≤ w.heap.size)
    (h : ∀ v' w', OwnL w' base v' (n + m) (xs ++ news) → Below base w w' → w.grownBy w' v.ownBlock → K (a.put o.dst v') w') : o.wp Tryz.prog a w K Q := by
  obtain ⟨i, hi, hz0, hz1, hz2⟩ := info_parts infoRow
  rcases A with _ | ad
  · obtain ⟨rfl, rfl⟩ := hA rfl
    have hrun := run_append_owned_none (P := Tryz.prog) (w := w) base 34 o.type 99 i 3 Tryz.underlying34 hi v n _ hown
    have hnil : news = [] := List.eq_nil_of_length_eq_zero (by omega)
    subst hnil
    unfold Oper.wp
    simp [execOp, ho, resolve, invoke, builtin, hp, hq, hrun, Result.andThen]
    exact h v w (by rw [List.append_nil]; exact hown) (Below.refl _ _) ⟨rfl, rfl, rfl, Nat.le_refl _, fun _ _ _ => rfl⟩
  · refine wp_append_own w p q 34 ho base 99 i _ 3 72 Tryz.underlying34 hi hz0 hz1 hz2 rfl (by omega) v n _ hp hown ad m c news hq hl (fun j u hu => ?_) h1 ?_ ?_ hbase ?_
    · obtain ⟨ad', e, hc⟩ := hnews j u hu
      cases e
      exact hc
    · unfold maxLen; omega
    · omega
    · intro v' w' k1 k2 _
      refine h v' w' k1 ?_ k2
      refine (Below.refl base w).grown k2 hbase ?_
      intro k hk
      exact (World.ownsRow.lt hown k hk).1
end Go.Proofs.YtomeeebiijmnmaaGreatDoor.Bk
