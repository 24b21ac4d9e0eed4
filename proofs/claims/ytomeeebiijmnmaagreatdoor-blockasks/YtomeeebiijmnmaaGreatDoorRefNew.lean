/-
 What lockboxref05.Ask returns where no row has it and a block is drawn.
-/
import Derived.Test.YtomeeebiijmnmaaGreatDoorRefApp
namespace Go.Proofs.YtomeeebiijmnmaaGreatDoor.Bk
open Mem Go.ChangeShapes Go.WideShapes Go.ChangeAt Go.RowKit
theorem zn1 {α : Type _} {xs : List α} {i : Nat} (h : i < xs.toArray.size) : xs.toArray[i] = xs[i]'(by simpa using h) := List.getElem_toArray h
theorem zn2 {α : Type _} {a : α} {bs : List α} {h : 0 < (a :: bs).length} : (a :: bs)[0] = a := List.getElem_cons_zero _ _ _
theorem zn3 {α : Type _} {a : α} {bs : List α} {i : Nat} {h : i + 1 < (a :: bs).length} : (a :: bs)[i + 1] = bs[i]'(by simpa using h) := List.getElem_cons_succ _ _ _ _
theorem zn4 {α : Type _} {l : List α} {i : Nat} {a : α} : l.toArray.setIfInBounds i a = (l.set i a).toArray := List.setIfInBounds_toArray _ _ _
theorem zn5 {α : Type _} {x : α} {xs : List α} {a : α} : (x :: xs).set 0 a = a :: xs := List.set_cons_zero
theorem zn6 {α : Type _} {x : α} {xs : List α} {i : Nat} {a : α} : (x :: xs).set (i + 1) a = x :: xs.set i a := List.set_cons_succ
/-- three cells -/
def rowC (a b c : Value) : Nat → Value := fun i => if i = 0 then a else if i = 1 then b else c
theorem rowC_eq (a b c : Value) : #[a, b, c] = row 3 (rowC a b c) := by
 apply row_of rfl
 intro i hi
 match i, hi with
 | 0, _ => rfl
 | 1, _ => rfl
 | 2, _ => rfl
theorem rowC_one (a b c : Value) (ha : a.oneCell' = true) (hb : b.oneCell' = true) (hc : c.oneCell' = true) : (row 3 (rowC a b c)).all (·.oneCell') = true := by
 rw [← rowC_eq]; simp [ha, hb, hc]
theorem bsR0 (w : World) : (Instr.buildSlice 34 0 #[]).run Tryz.prog w = .ok (.slice (some ⟨w.heap.size, 0, none⟩) 0 0) (w.alloc (.cells #[] 99)) := by kernel_rfl
theorem bsR1 (a b c : Value) (w : World) : (Instr.buildSlice 34 1 #[(0, .agg (row 3 (rowC a b c)))]).run Tryz.prog w = .ok (.slice (some ⟨w.heap.size, 0, none⟩) 1 1) (w.alloc (.cells (row 3 (rowC a b c)) 99)) := by
 rw [← rowC_eq]
 kernel_rfl
theorem bsB0 (w : World) : (Instr.buildSlice 22 0 #[]).run Tryz.prog w = .ok (.slice (some ⟨w.heap.size, 0, none⟩) 0 0) (w.alloc (.cells #[] 5)) := by kernel_rfl
section
variable {P : Program} {o : Oper} {a : Act} {w w' : World} {K : Act → World → Prop} {Q : Exit → Act → World → Prop}
theorem wp_valw (v : Value) (hr : (execOp a.eval o).run P w = .ok (.value v) w') (h : K (a.put o.dst v) w') : o.wp P a w K Q := by
 unfold Oper.wp
 rw [hr]
 exact h
theorem wp_skipw (hr : (execOp a.eval o).run P w = .ok .skip w') (h : K (a.put o.dst undef) w') : o.wp P a w K Q := by
 unfold Oper.wp
 rw [hr]
 exact h
theorem exec_bs0 (t : TypeId) (ho : o.op = .buildSlice t 0 #[]) (v : Value) (hr : (Instr.buildSlice t 0 #[]).run P w = .ok v w') : (execOp a.eval o).run P w = .ok (.value v) w' := by
 unfold execOp
 simp [ho, hr]
theorem exec_bs1 (t : TypeId) (x : Operand) (ho : o.op = .buildSlice t 1 #[(0, x)]) (u v : Value) (hx : a.eval x = u) (hr : (Instr.buildSlice t 1 #[(0, u)]).run P w = .ok v w') : (execOp a.eval o).run P w = .ok (.value v) w' := by
 unfold execOp
 simp [ho, hx, hr]
theorem exec_stV (ty : TypeId) (x y : Operand) (ho : o.op = .store ty x y) (p : Addr) (hx : a.eval x = .pointer (some p)) (v : Value) (hy : a.eval y = v) (h1 : v.oneCell' = true) (h2 : v.cells = #[v])
  (hs : (P.info? ty).map (·.size) = some 1) (old : Value) (hc : w.cell? p = some old) (hf : w.frozen? p = false) : (execOp a.eval o).run P w = .ok .skip (w.setCell p v) := by
 have hr : (Instr.storeAt ty (.pointer (some p)) v).run P w = .ok () (w.setCell p v) := by
  have h3 : (store p v).run P w = .ok () (w.setCell p v) := by rw [run_store P w p _ _ h1]; simp [hc, hf]
  have h0 : p.add 0 = p := by simp [Addr.add]
  simp [Instr.storeAt, Instr.sureAddr, storeVar, h2, Sem.run_bind, run_size hs, storeCells, h0, h3]
 unfold execOp
 simp only [ho, hx, hy, Sem.run_bind, hr, Sem.run_pure, Result.andThen_ok]
end
theorem iSRow : (Tryz.prog.info? 34).map (·.size) = some 1 := by kernel_rfl
/-- what holds behind the rows' append -/
structure Past24 (w wz : World) (T : Value) (m : Nat) (ys : List Value) (W : World) (v : Value) : Prop where
 bel : Below w.heap.size wz W
 book : Blk W w.heap.size 36 (row 2 (bookC v T))
 out : Blk W (w.heap.size + 1) 36 (row 2 (bookC (.slice none 0 0) (.slice none 0 0)))
 own : OwnL W wz.heap.size v m ys
 kept : ∀ g, g < wz.heap.size → g ≠ w.heap.size → W.heap[g]? = wz.heap[g]?
 size : wz.heap.size ≤ W.heap.size
theorem past24 {w wz W : World} {T v0 v : Value} {m : Nat} {ys : List Value} (hz : w.heap.size + 1 < wz.heap.size) (h4 : Blk wz w.heap.size 36 (row 2 (bookC v0 T))) (h8 : Blk wz (w.heap.size + 1) 36 (row 2 (bookC (.slice none 0 0) (.slice none 0 0)))) (hB : Below wz.heap.size wz W) (ho : OwnL W wz.heap.size v m ys) :
  Past24 w wz T m ys (W.setCell ⟨w.heap.size, 0, none⟩ v) v := by
 have k4 := (h4.below hB (by omega)).setCell 0 v
 refine ⟨(hB.mono (show w.heap.size ≤ wz.heap.size by omega)).setCell (p := ⟨w.heap.size, 0, none⟩) (Nat.le_refl _) v, ?_, (h8.below hB hz).other _ _ (by simp), ownsRow_setCell_below ho (by show w.heap.size < _; omega) v, fun g hg hne => ?_, by simpa using hB.size⟩
 ·rw [row2] at k4 ⊢
  exact k4
 ·rw [heap_setCell_other W ⟨w.heap.size, 0, none⟩ g v (by simpa using hne)]
  exact hB.block g hg
theorem RowC.ext {w : World} {B Lk : Nat} {r : Rw} {c d : Nat → Value} (h : RowC w B Lk r c) (hcd : ∀ j, j < 3 → c j = d j) : RowC w B Lk r d := by
 obtain ⟨⟨A, cp, f, h1, h2, h3, h4⟩, ⟨A1, c1, h5, h6, h7⟩, ⟨A2, c2, h8, h9, h10⟩⟩ := h
 exact ⟨⟨A, cp, f, by rw [← hcd 0 (by omega), h1], h2, h3, h4⟩, ⟨A1, c1, by rw [← hcd 1 (by omega), h5], h6, h7⟩, ⟨A2, c2, by rw [← hcd 2 (by omega), h8], h9, h10⟩⟩
theorem rows_new {w : World} {B Lk : Nat} {R : List Rw} {r : Rw} {xs : List Value} {a b c : Value} (hxl : xs.length = R.length * 3) (h1 : ∀ i, ∀ hi : i < R.length, RowC w B Lk R[i] (fun j => xs.getD (i * 3 + j) undef)) (h2 : RowC w B Lk r (rowC a b c)) :
  ∀ i, ∀ hi : i < (R ++ [r]).length, RowC w B Lk (R ++ [r])[i] (fun j => (xs ++ [a, b, c]).getD (i * 3 + j) undef) := fun i hi => by
 rw [List.length_append, List.length_singleton] at hi
 by_cases h : i < R.length
 ·rw [List.getElem_append_left h]
  refine (h1 i h).ext fun j hj => ?_
  rw [List.getD_eq_getElem?_getD, List.getD_eq_getElem?_getD, List.getElem?_append_left (by omega)]
 ·have hi2 : i = R.length := by omega
  subst hi2
  rw [List.getElem_append_right (Nat.le_refl _)]
  simp only [Nat.sub_self, List.getElem_cons_zero]
  refine h2.ext fun j hj => ?_
  rw [List.getD_eq_getElem?_getD, List.getElem?_append_right (by omega), hxl, Nat.add_sub_cancel_left]
  match j, hj with
  | 0, _ => rfl
  | 1, _ => rfl
  | 2, _ => rfl
theorem ne_own {g g0 n c : Nat} (h : g ≠ g0) : some g ≠ (Value.slice (some ⟨g0, 0, none⟩) n c).ownBlock := fun e => h (by simpa [Value.ownBlock] using e)
/-- blocks of wz but the book's are as they were -/
def KeptB (w wz W : World) : Prop := (∀ g, g < wz.heap.size → g ≠ w.heap.size → W.heap[g]? = wz.heap[g]?) ∧ wz.heap.size ≤ W.heap.size
theorem keptB {w wz W : World} (h : Below wz.heap.size wz W) : KeptB w wz W := ⟨fun g hg _ => h.block g hg, h.size⟩
theorem OwnL.kept {W W' : World} {base n : Nat} {v : Value} {xs : List Value} (h : OwnL W base v n xs) (hk : ∀ g, base ≤ g → g < W.heap.size → W'.heap[g]? = W.heap[g]?) : OwnL W' base v n xs := by
 obtain ⟨h1, h2 | ⟨g, c, cur, hv, hg, hblk, rest⟩⟩ := h
 ·exact ⟨h1, .inl h2⟩
 ·have hb : Blk W g 99 cur := hblk
  exact ⟨h1, .inr ⟨g, c, cur, hv, hg, (hk g hg hb.lt).trans hblk, rest⟩⟩
theorem suffN {F : World → Value → Prop} {G : World → Value → Value → Value → Value → Prop} {R : Prop} (h1 : (∀ W a b c v, F W v → G W a b c v) → R) (h2 : ∀ W a b c v, F W v → G W a b c v) : R := h1 h2
theorem own_lo {w : World} {base e n c : Nat} {A : Option Addr} {f : Nat → Nat} (h : Mem.Own w base e 1 (.slice A n c) n f) : ∀ p, A = some p → base ≤ p.block := by
 intro p hp
 rcases h.form with ⟨hv, _⟩ | ⟨g, c', cur, hv, hb, _⟩
 ·injection hv with h1; rw [h1] at hp; cases hp
 ·injection hv with h1; rw [h1] at hp; cases hp; exact hb
theorem reads_kept {wz W : World} {A : Option Addr} {n : Nat} {f : Nat → Nat} {g0 : Nat} (h : Reads wz wz.heap.size A n f) (hA : ∀ p, A = some p → g0 < p.block) (hk : ∀ g, g < wz.heap.size → g0 < g → W.heap[g]? = wz.heap[g]?) (hs : wz.heap.size ≤ W.heap.size) : Reads W W.heap.size A n f := fun hn => by
 obtain ⟨ad, e, hb, hc⟩ := h hn
 refine ⟨ad, e, by omega, fun i hi => ?_⟩
 rw [← hc i hi]
 have hlo := hA ad e
 exact World.cell?_of_block (by rw [add_block]; exact hk _ hb hlo)
set_option linter.unusedSimpArgs false in
set_option maxRecDepth 100000 in
set_option maxHeartbeats 8000000 in
/-- no row has it, and a block is drawn -/
theorem rask_new (F : Nat → Nat) (n d Lk : Nat) (R : List Rw) (Ar : Option Addr) (cr : Nat) (At : Option Addr) (ct : Nat) (Ak : Option Addr) (ck : Nat) (key : Nat → Nat) (Ax : Option Addr) (cx : Nat) (x : Nat → Nat) (bk : Bool) (w : World)
  (B0 : Nat) (hB0 : B0 ≤ w.heap.size) (hR : RowsAt w B0 Ar Lk R) (hT : Reads w B0 At (n - d) (fun i => F (d + i))) (hct : n - d ≤ ct) (_hn : n ≤ 100000) (hd : d ≤ n) (hLk : Lk ≤ 1000) (hlen : R.length ≤ 1000) (hkey : Reads w w.heap.size Ak Lk key) (hkb : ∀ i, i < Lk → key i < 256) (hx : Reads w w.heap.size Ax 16 x)
  (hf : R.find? (hitR bk (strF Lk key) x) = none) (j : Nat) (hj : drawTo F n (hit (!bk) R (strF Lk key)) d = (true, j)) (hAr : Ar = none → R.length = 0 ∧ cr = 0) (hAk : Ak = none → Lk = 0 ∧ ck = 0) :
  Calls Tryz.prog 35 #[.agg (row 2 (bookC (.slice Ar R.length cr) (.slice At (n - d) ct))), .slice Ak Lk ck, .slice Ax 16 cx, .bool bk] w (RAskOut F n Lk B0 (some fun i => F (j + i)) (R ++ [mk bk (strF Lk key) x fun i => F (j + i)]) (j + 16) w) := by
 have W1 : Hid (Below w.heap.size w ((w.alloc (.cells (row 2 (bookC (.slice Ar R.length cr) (.slice At (n - d) ct))) 36)).alloc (.cells (row 2 (bookC (.slice none 0 0) (.slice none 0 0))) 36))) := hid (((Below.refl _ _).alloc (Nat.le_refl _) _).alloc (by simp) _)
 have HR0 := hid hR
 have HT0 := hid hT
 have HR := hid (hR.more hB0)
 have HT := hid (hT.more hB0)
 have HK := hid hkey
 have HX := hid hx
 have HN : Hid (∀ i, ∀ hi : i < R.length, hitR bk (strF Lk key) x R[i] = false) := hid (fun i hi => by rw [List.find?_eq_none] at hf; simpa using hf _ (List.getElem_mem hi))
 have HJ := hid hj
 have HAr := hid hAr
 have HAk := hid hAk
 have Hkb := hid hkb
 have hg4 : Blk ((w.alloc (.cells (row 2 (bookC (.slice Ar R.length cr) (.slice At (n - d) ct))) 36)).alloc (.cells (row 2 (bookC (.slice none 0 0) (.slice none 0 0))) 36)) w.heap.size 36 (row 2 (bookC (.slice Ar R.length cr) (.slice At (n - d) ct))) := (Blk.fresh _ _ _).alloc _
 have hg8 : Blk ((w.alloc (.cells (row 2 (bookC (.slice Ar R.length cr) (.slice At (n - d) ct))) 36)).alloc (.cells (row 2 (bookC (.slice none 0 0) (.slice none 0 0))) 36)) (w.heap.size + 1) 36 (row 2 (bookC (.slice none 0 0) (.slice none 0 0))) := by
  have := Blk.fresh (w.alloc (.cells (row 2 (bookC (.slice Ar R.length cr) (.slice At (n - d) ct))) 36)) 36 (row 2 (bookC (.slice none 0 0) (.slice none 0 0)))
  simpa using this
 clear hR hT hkey hx hf hj hAr hAk
 go_enter Tryz.func35, Tryz.ntmps35
 go_wp2_with (first
  | (with_reducible refine wpl_alloc rfl 36 rfl _ zRB2 ?_))
 generalize ((w.alloc (.cells (row 2 (bookC (.slice Ar R.length cr) (.slice At (n - d) ct))) 36)).alloc (.cells (row 2 (bookC (.slice none 0 0) (.slice none 0 0))) 36)) = w1 at *
 go_loopw [11] (fun vi wr => ∃ i : Nat, i ≤ R.length ∧ vi = .int .i64 (i : Int) ∧ Blk wr w.heap.size 36 (row 2 (bookC (.slice Ar R.length cr) (.slice At (n - d) ct))) ∧ Blk wr (w.heap.size + 1) 36 (row 2 (bookC (.slice none 0 0) (.slice none 0 0))) ∧ Below w.heap.size w wr) (fun vi _ => R.length - (intOf vi).toNat)
 case atStart => exact ⟨0, by omega, rfl, hg4, hg8, W1.out⟩
 case round =>
  clear hg4 hg8 W1
  obtain ⟨i, hi, rfl, h4, h8, hB⟩ := hrel
  by_cases hlt : i < R.length
  ·obtain ⟨adr, hAr, had, cc, hcc, hrc⟩ := HR.out i hlt
   subst hAr
   have hc0 : wr.cell? ⟨w.heap.size, 0, none⟩ = some (.slice (some adr) R.length cr) := h4.cell 0
   have hcc' : Hid (∀ j, j < 3 → wr.cell? ((adr.add (i * 3)).add j) = some (cc j)) := hid (fun j hj => (hB.cell (by rw [add_block, add_block]; exact had)).trans (hcc j hj))
   have HB := hid hB
   have HC := hid hrc
   obtain ⟨Akr, cpr, fk, hk0, hkR, hkB, hkS⟩ := hrc.key
   obtain ⟨Air, cir, hi0, hic, hiR⟩ := hrc.inn
   obtain ⟨Aor, cor, ho0, hoc, hoR⟩ := hrc.out
   have hBA := HB.out.alloc HB.out.size (.cells (row 3 cc) 99)
   have q0 : Hid ((wr.alloc (.cells (row 3 cc) 99)).cell? ⟨wr.heap.size, 0, none⟩ = some (.slice Akr Lk cpr)) := hid (by rw [(Blk.fresh wr 99 (row 3 cc)).cell, row_get _ _ _ (by omega), hk0])
   have HA := hid (Blk.fresh wr 99 (row 3 cc))
   have HKr := hid ((hkR.below hBA).more hBA.size)
   have HKk := hid ((HK.out.below hBA).more hBA.size)
   have HBA := hid hBA
   have Hhit : Hid (∀ bb z, hitR bb (strF Lk key) z R[i] = (eqB Lk fk key && eqB 16 (fr bb R[i]) z)) := hid (fun bb z => by unfold hitR; rw [hkS, strF_eqB hkB hkb])
   have HiR := hid hiR
   have HoR := hid hoR
   have H4A := hid (h4.alloc (.cells (row 3 cc) 99))
   have H8A := hid (h8.alloc (.cells (row 3 cc) 99))
   clear hcc hrc h4 h8 hB hkR hBA hiR hoR
   go_wp2_with (first
    | (with_reducible refine wpl_sl rfl 34 _ _ rfl adr R.length cr rfl .i64 _ rfl i rfl 99 Tryz.underlying34 hlt 3 iRow ?_)
    | (with_reducible refine wpl_val rfl _ (exec_loadSt 99 _ rfl (adr.add (i * 3)) rfl 3 cc hcc'.out _ Tryz.underlying99 iRow) ?_)
    | (with_reducible refine wpl_alloc rfl 99 rfl _ zRow ?_)
    | (with_reducible refine wpl_store_newS rfl 99 _ _ rfl wr _ 3 cc (row_ones HC.out) rfl rfl 99 iRow (row_size _ _) ?_)
    | (with_reducible refine wpl_lds rfl 22 _ rfl ⟨wr.heap.size, 0, none⟩ rfl 5 Tryz.underlying22 _ q0.out ?_))
   generalize wr.alloc (.cells (row 3 cc) 99) = wA at *
   generalize wr.heap.size = gr at *
   refine (same_any Akr Ak Lk cpr ck fk key _ (by omega) HKr.out HKk.out).mono ?_
   rintro e w5 ⟨rfl, hB5⟩
   have HB5 := hid (HBA.out.trans (hB5.mono HBA.out.size))
   have H45 := hid (H4A.out.below hB5 H4A.out.lt)
   have H85 := hid (H8A.out.below hB5 H8A.out.lt)
   have HA5 := hid (HA.out.below hB5 HA.out.lt)
   clear hB5 H4A H8A HA HBA q0 HKr HKk HB
   have hno := HN.out i hlt
   rw [Hhit.out] at hno
   have Hno := hid hno
   clear hno
   cases hek : eqB Lk fk key
   ·go_wp2_with fail
    go_round
    case rel => exact ⟨i + 1, by omega, val_int (by omega), H45.out, H85.out, HB5.out⟩
    case measure => simp [intOf]; omega
   ·have Hno2 : Hid (eqB 16 (fr bk R[i]) x = false) := hid (by have := Hno.out; rw [hek] at this; simpa using this)
    clear hek Hno
    have q1 : Hid (w5.cell? ⟨gr, 1, none⟩ = some (.slice Air 16 cir)) := hid (by rw [HA5.out.cell, row_get _ _ _ (by omega), hi0])
    have q2 : Hid (w5.cell? ⟨gr, 2, none⟩ = some (.slice Aor 16 cor)) := hid (by rw [HA5.out.cell, row_get _ _ _ (by omega), ho0])
    cases bk
    ·go_wp2_with (first
      | ((with_reducible refine wpg_val ?_ _ (exec_ldsl 22 _ rfl ⟨gr, 1, none⟩ rfl 5 Tryz.underlying22 _ q1.out) ?_); exact rfl))
     refine (same_any Air Ax 16 cir cx R[i].x x _ (by omega) ((HiR.out.below HB5.out).more HB5.out.size) ((HX.out.below HB5.out).more HB5.out.size)).mono ?_
     rintro e w6 ⟨rfl, hB6⟩
     rw [show eqB 16 R[i].x x = false from Hno2.out]
     have HB6 := hid (HB5.out.trans (hB6.mono HB5.out.size))
     have H46 := hid (H45.out.below hB6 H45.out.lt)
     have H86 := hid (H85.out.below hB6 H85.out.lt)
     go_wp2_with fail
     go_round
     case rel => exact ⟨i + 1, by omega, val_int (by omega), H46.out, H86.out, HB6.out⟩
     case measure => simp [intOf]; omega
    ·go_wp2_with (first
      | ((with_reducible refine wpg_val ?_ _ (exec_ldsl 22 _ rfl ⟨gr, 2, none⟩ rfl 5 Tryz.underlying22 _ q2.out) ?_); exact rfl))
     refine (same_any Aor Ax 16 cor cx R[i].y x _ (by omega) ((HoR.out.below HB5.out).more HB5.out.size) ((HX.out.below HB5.out).more HB5.out.size)).mono ?_
     rintro e w6 ⟨rfl, hB6⟩
     rw [show eqB 16 R[i].y x = false from Hno2.out]
     have HB6 := hid (HB5.out.trans (hB6.mono HB5.out.size))
     have H46 := hid (H45.out.below hB6 H45.out.lt)
     have H86 := hid (H85.out.below hB6 H85.out.lt)
     go_wp2_with fail
     go_round
     case rel => exact ⟨i + 1, by omega, val_int (by omega), H46.out, H86.out, HB6.out⟩
     case measure => simp [intOf]; omega
  ·have hltI : ¬ (i : Int) < (R.length : Int) := by omega
   have hc0 : wr.cell? ⟨w.heap.size, 0, none⟩ = some (.slice Ar R.length cr) := h4.cell 0
   have H4 := hid h4
   have H8 := hid h8
   have HB := hid hB
   clear h4 h8 hB
   go_wp2_with fail
   clear hc0
   rename World => wo
   go_loopw [13] (fun _ wr => ∃ (e : Nat) (A' : Option Addr) (c' : Nat), d ≤ e ∧ e ≤ n ∧ Hid (drawTo F n (hit (!bk) R (strF Lk key)) e = (true, j)) ∧ Blk wr w.heap.size 36 (row 2 (bookC (.slice Ar R.length cr) (.slice A' (n - e) c'))) ∧ Hid (Reads w B0 A' (n - e) (fun i => F (e + i))) ∧ n - e ≤ c' ∧ Blk wr (w.heap.size + 1) 36 (row 2 (bookC (.slice none 0 0) (.slice none 0 0))) ∧ Below w.heap.size w wr) (fun _ wr => tlen wr w.heap.size)
   case atStart => exact ⟨d, At, ct, Nat.le_refl _, hd, HJ, H4.out, HT0, hct, H8.out, HB.out⟩
   case round =>
    clear H4 H8 HB
    obtain ⟨e, A', c', hde, hen, HD, h4, HTe, hce, h8, hB⟩ := hrel
    rename World => wp
    have hc1 : wp.cell? ⟨w.heap.size, 1, none⟩ = some (.slice A' (n - e) c') := h4.cell 1
    have Hlen : Hid (tlen wp w.heap.size = n - e) := hid (by unfold tlen; rw [hc1])
    by_cases h16 : 16 ≤ n - e
    ·have h16I : ((n - e : Nat) : Int) ≥ 16 := by omega
     have hcut := fun W => run_cut16 A' (n - e) c' (by omega) W
     have hfr := h4.free 1
     have h4' : Blk (wp.setCell ⟨w.heap.size, 1, none⟩ (.slice (cutA A' 16 c') (n - e - 16) (c' - 16))) w.heap.size 36 (row 2 (bookC (.slice Ar R.length cr) (.slice (cutA A' 16 c') (n - e - 16) (c' - 16)))) := by
      have := h4.setCell 1 (.slice (cutA A' 16 c') (n - e - 16) (c' - 16))
      rw [row2] at this ⊢
      exact this
     have h8' := h8.other ⟨w.heap.size, 1, none⟩ (.slice (cutA A' 16 c') (n - e - 16) (c' - 16)) (by simp)
     have hB' := hB.setCell (p := ⟨w.heap.size, 1, none⟩) (Nat.le_refl _) (.slice (cutA A' 16 c') (n - e - 16) (c' - 16))
     have H4 := hid h4'
     have H8 := hid h8'
     have HB := hid hB'
     clear h4 h8 hB h4' h8' hB'
     go_wp2_with fail
     clear hcut hc1 hfr
     generalize wp.setCell ⟨w.heap.size, 1, none⟩ (.slice (cutA A' 16 c') (n - e - 16) (c' - 16)) = wq at *
     have HY : Hid (Reads w w.heap.size A' 16 (fun i => F (e + i))) := hid ((HTe.out.less h16).more hB0)
     go_loopw [14, 15] (fun vt vi wr => ∃ q : Nat, q ≤ R.length ∧ vi = .int .i64 (q : Int) ∧ vt = .bool ((R.take q).any (hitR (!bk) (strF Lk key) (fun i => F (e + i)))) ∧ Blk wr w.heap.size 36 (row 2 (bookC (.slice Ar R.length cr) (.slice (cutA A' 16 c') (n - e - 16) (c' - 16)))) ∧ Blk wr (w.heap.size + 1) 36 (row 2 (bookC (.slice none 0 0) (.slice none 0 0))) ∧ Below w.heap.size w wr) (fun _ vi _ => R.length - (intOf vi).toNat)
     case atStart => exact ⟨0, by omega, rfl, by simp, H4.out, H8.out, HB.out⟩
     case round =>
      clear H4 H8 HB
      obtain ⟨q, hq, rfl, rfl, h4, h8, hB⟩ := hrel
      rename World => wt
      by_cases hlq : q < R.length
      ·obtain ⟨tb, Htb⟩ : ∃ tb, Hid ((R.take q).any (hitR (!bk) (strF Lk key) (fun i => F (e + i))) = tb) := ⟨_, hid rfl⟩
       rw [Htb.out]
       obtain ⟨adr, hAr, had, cc, hcc, hrc⟩ := HR.out q hlq
       subst hAr
       have hc0 : wt.cell? ⟨w.heap.size, 0, none⟩ = some (.slice (some adr) R.length cr) := h4.cell 0
       have hcc' : Hid (∀ j, j < 3 → wt.cell? ((adr.add (q * 3)).add j) = some (cc j)) := hid (fun j hj => (hB.cell (by rw [add_block, add_block]; exact had)).trans (hcc j hj))
       have HB := hid hB
       have HC := hid hrc
       obtain ⟨Akr, cpr, fk, hk0, hkR, hkB, hkS⟩ := hrc.key
       obtain ⟨Air, cir, hi0, hic, hiR⟩ := hrc.inn
       obtain ⟨Aor, cor, ho0, hoc, hoR⟩ := hrc.out
       have hBA := HB.out.alloc HB.out.size (.cells (row 3 cc) 99)
       have q0 : Hid ((wt.alloc (.cells (row 3 cc) 99)).cell? ⟨wt.heap.size, 0, none⟩ = some (.slice Akr Lk cpr)) := hid (by rw [(Blk.fresh wt 99 (row 3 cc)).cell, row_get _ _ _ (by omega), hk0])
       have HA := hid (Blk.fresh wt 99 (row 3 cc))
       have HKr := hid ((hkR.below hBA).more hBA.size)
       have HKk := hid ((HK.out.below hBA).more hBA.size)
       have HBA := hid hBA
       have Hhit : Hid (∀ bb z, hitR bb (strF Lk key) z R[q] = (eqB Lk fk key && eqB 16 (fr bb R[q]) z)) := hid (fun bb z => by unfold hitR; rw [hkS, strF_eqB hkB hkb])
       have HiR := hid hiR
       have HoR := hid hoR
       have H4A := hid (h4.alloc (.cells (row 3 cc) 99))
       have H8A := hid (h8.alloc (.cells (row 3 cc) 99))
       clear hcc hrc h4 h8 hB hkR hBA hiR hoR
       go_wp2_with (first
        | (with_reducible refine wpl_sl rfl 34 _ _ rfl adr R.length cr rfl .i64 _ rfl q rfl 99 Tryz.underlying34 hlq 3 iRow ?_)
        | (with_reducible refine wpl_val rfl _ (exec_loadSt 99 _ rfl (adr.add (q * 3)) rfl 3 cc hcc'.out _ Tryz.underlying99 iRow) ?_)
        | (with_reducible refine wpl_alloc rfl 99 rfl _ zRow ?_)
        | (with_reducible refine wpl_store_newS rfl 99 _ _ rfl wt _ 3 cc (row_ones HC.out) rfl rfl 99 iRow (row_size _ _) ?_)
        | (with_reducible refine wpl_lds rfl 22 _ rfl ⟨wt.heap.size, 0, none⟩ rfl 5 Tryz.underlying22 _ q0.out ?_))
       generalize wt.alloc (.cells (row 3 cc) 99) = wA at *
       generalize wt.heap.size = gr at *
       refine (same_any Akr Ak Lk cpr ck fk key _ (by omega) HKr.out HKk.out).mono ?_
       rintro e w5 ⟨rfl, hB5⟩
       have HB5 := hid (HBA.out.trans (hB5.mono HBA.out.size))
       have H45 := hid (H4A.out.below hB5 H4A.out.lt)
       have H85 := hid (H8A.out.below hB5 H8A.out.lt)
       have HA5 := hid (HA.out.below hB5 HA.out.lt)
       clear hB5 H4A H8A HA HBA q0 HKr HKk HB
       cases hek : eqB Lk fk key
       ·have Hek := hid hek
        clear hek
        go_wp2_with fail
        go_round
        case rel =>
         refine ⟨q + 1, by omega, val_int (by omega), ?_, H45.out, H85.out, HB5.out⟩
         rw [any_step hlq, Htb.out, Hhit.out, Hek.out]; simp
        case measure => simp [intOf]; omega
       ·have Hek := hid hek
        clear hek
        have q1 : Hid (w5.cell? ⟨gr, 1, none⟩ = some (.slice Air 16 cir)) := hid (by rw [HA5.out.cell, row_get _ _ _ (by omega), hi0])
        have q2 : Hid (w5.cell? ⟨gr, 2, none⟩ = some (.slice Aor 16 cor)) := hid (by rw [HA5.out.cell, row_get _ _ _ (by omega), ho0])
        cases bk
        ·go_wp2_with (first
          | ((with_reducible refine wpg_val ?_ _ (exec_ldsl 22 _ rfl ⟨gr, 2, none⟩ rfl 5 Tryz.underlying22 _ q2.out) ?_); exact rfl))
         refine (same_any Aor A' 16 cor c' R[q].y (fun i => F (e + i)) _ (by omega) ((HoR.out.below HB5.out).more HB5.out.size) ((HY.out.below HB5.out).more HB5.out.size)).mono ?_
         rintro e' w6 ⟨rfl, hB6⟩
         have HB6 := hid (HB5.out.trans (hB6.mono HB5.out.size))
         have H46 := hid (H45.out.below hB6 H45.out.lt)
         have H86 := hid (H85.out.below hB6 H85.out.lt)
         cases hey : eqB 16 R[q].y (fun i => F (e + i))
         ·have Hey := hid hey
          clear hey
          go_wp2_with fail
          go_round
          case rel =>
           refine ⟨q + 1, by omega, val_int (by omega), ?_, H46.out, H86.out, HB6.out⟩
           rw [any_step hlq, Htb.out, Hhit.out, Hek.out]
           show Value.bool tb = Value.bool (tb || (true && eqB 16 R[q].y (fun i => F (e + i))))
           rw [Hey.out]; simp
          case measure => simp [intOf]; omega
         ·have Hey := hid hey
          clear hey
          go_wp2_with fail
          go_round
          case rel =>
           refine ⟨q + 1, by omega, val_int (by omega), ?_, H46.out, H86.out, HB6.out⟩
           rw [any_step hlq, Htb.out, Hhit.out, Hek.out]
           show Value.bool true = Value.bool (tb || (true && eqB 16 R[q].y (fun i => F (e + i))))
           rw [Hey.out]; simp
          case measure => simp [intOf]; omega
        ·go_wp2_with (first
          | ((with_reducible refine wpg_val ?_ _ (exec_ldsl 22 _ rfl ⟨gr, 1, none⟩ rfl 5 Tryz.underlying22 _ q1.out) ?_); exact rfl))
         refine (same_any Air A' 16 cir c' R[q].x (fun i => F (e + i)) _ (by omega) ((HiR.out.below HB5.out).more HB5.out.size) ((HY.out.below HB5.out).more HB5.out.size)).mono ?_
         rintro e' w6 ⟨rfl, hB6⟩
         have HB6 := hid (HB5.out.trans (hB6.mono HB5.out.size))
         have H46 := hid (H45.out.below hB6 H45.out.lt)
         have H86 := hid (H85.out.below hB6 H85.out.lt)
         cases hey : eqB 16 R[q].x (fun i => F (e + i))
         ·have Hey := hid hey
          clear hey
          go_wp2_with fail
          go_round
          case rel =>
           refine ⟨q + 1, by omega, val_int (by omega), ?_, H46.out, H86.out, HB6.out⟩
           rw [any_step hlq, Htb.out, Hhit.out, Hek.out]
           show Value.bool tb = Value.bool (tb || (true && eqB 16 R[q].x (fun i => F (e + i))))
           rw [Hey.out]; simp
          case measure => simp [intOf]; omega
         ·have Hey := hid hey
          clear hey
          go_wp2_with fail
          go_round
          case rel =>
           refine ⟨q + 1, by omega, val_int (by omega), ?_, H46.out, H86.out, HB6.out⟩
           rw [any_step hlq, Htb.out, Hhit.out, Hek.out]
           show Value.bool true = Value.bool (tb || (true && eqB 16 R[q].x (fun i => F (e + i))))
           rw [Hey.out]; simp
          case measure => simp [intOf]; omega
      ·have hlqI : ¬ (q : Int) < (R.length : Int) := by omega
       obtain rfl : q = R.length := by omega
       have hc0 : wt.cell? ⟨w.heap.size, 0, none⟩ = some (.slice Ar R.length cr) := h4.cell 0
       rw [List.take_length]
       have H4 := hid h4
       have H8 := hid h8
       have HB := hid hB
       clear h4 h8 hB
       cases htk : R.any (hitR (!bk) (strF Lk key) (fun i => F (e + i)))
       ·have Hej : Hid (j = e) := hid (by have h := HD.out; rw [drawTo_new (by omega) htk] at h; cases h; rfl)
        clear htk
        have hje := Hej.out
        clear Hej
        subst hje
        have HN0 := HB
        obtain ⟨wn0, hwn0⟩ : ∃ x, x = wt := ⟨_, rfl⟩
        subst hwn0
        have H40 := H4
        have H80 := H8
        have hid0lt : Hid (w.heap.size + 1 < wn0.heap.size) := hid H80.out.lt
        clear H4 H8 HB
        have hLk6 : Lk ≤ 100000 := by omega
        have hBe1 := (Below.refl wn0.heap.size wn0).alloc (Nat.le_refl _) (.cells #[] 5)
        have He1 := hid (Mem.Own.empty wn0 wn0.heap.size 5 (fun _ => 0) (Nat.le_refl _))
        have HRe1 := hid ((((HK.out).below HN0.out).more HN0.out.size).below hBe1)
        go_wp2_with (at_builtin; (refine wpl_app_gen rfl _ _ 22 rfl wn0.heap.size 5 (.int .u8 0) Tryz.underlying22 info_u8 rfl _ 0 _ rfl He1.out Ak Lk ck _ _ HRe1.out HAk.out rfl (by omega) (by simp) ?_))
        intro vn1 wn1 hon1 hBn1
        try rw [Nat.zero_add] at hon1
        have hBm1 := hBe1.trans hBn1
        obtain ⟨An1, cn1, rfl, hcn1, -, -⟩ := hon1.slice'
        have HO1 : Hid (Reads wn1 wn1.heap.size An1 Lk key) := hid (hon1.reads.ext (fun i hi => by unfold cat; simp))
        have hlo1 := own_lo hon1
        have hsz1 := hBm1.size
        have HN1 := hid (HN0.out.trans (hBm1.mono HN0.out.size))
        have H41 := hid (H40.out.below hBm1 H40.out.lt)
        have H81 := hid (H80.out.below hBm1 H80.out.lt)
        clear hon1 hBn1 hBe1 He1 HRe1 hBm1 H40 H80 hc0
        have hBe2 := (Below.refl wn1.heap.size wn1).alloc (Nat.le_refl _) (.cells #[] 5)
        have He2 := hid (Mem.Own.empty wn1 wn1.heap.size 5 (fun _ => 0) (Nat.le_refl _))
        have HRe2 := hid ((((HX.out).below HN1.out).more HN1.out.size).below hBe2)
        go_wp2_with (at_builtin; (refine wpl_app_gen rfl _ _ 22 rfl wn1.heap.size 5 (.int .u8 0) Tryz.underlying22 info_u8 rfl _ 0 _ rfl He2.out Ax 16 cx _ _ HRe2.out (fun h => by have := HX.out (by omega); obtain ⟨ad, h2, -⟩ := this; rw [h] at h2; cases h2) rfl (by omega) (by simp) ?_))
        intro vn2 wn2 hon2 hBn2
        try rw [Nat.zero_add] at hon2
        have hBm2 := hBe2.trans hBn2
        obtain ⟨An2, cn2, rfl, hcn2, -, -⟩ := hon2.slice'
        have HO2 : Hid (Reads wn2 wn2.heap.size An2 16 x) := hid (hon2.reads.ext (fun i hi => by unfold cat; simp))
        have hlo2 := own_lo hon2
        have hsz2 := hBm2.size
        have HN2 := hid (HN1.out.trans (hBm2.mono HN1.out.size))
        have HO1x := hid ((HO1.out.below hBm2).more hBm2.size)
        have H42 := hid (H41.out.below hBm2 H41.out.lt)
        have H82 := hid (H81.out.below hBm2 H81.out.lt)
        clear hon2 hBn2 hBe2 He2 HRe2 hBm2 H41 H81 HO1
        have hBe3 := (Below.refl wn2.heap.size wn2).alloc (Nat.le_refl _) (.cells #[] 5)
        have He3 := hid (Mem.Own.empty wn2 wn2.heap.size 5 (fun _ => 0) (Nat.le_refl _))
        have HRe3 := hid ((((HY.out).below HN2.out).more HN2.out.size).below hBe3)
        go_wp2_with (at_builtin; (refine wpl_app_gen rfl _ _ 22 rfl wn2.heap.size 5 (.int .u8 0) Tryz.underlying22 info_u8 rfl _ 0 _ rfl He3.out A' 16 c' _ _ HRe3.out (fun h => by have := HY.out (by omega); obtain ⟨ad, h2, -⟩ := this; rw [h] at h2; cases h2) rfl (by omega) (by simp) ?_))
        intro vn3 wn3 hon3 hBn3
        try rw [Nat.zero_add] at hon3
        have hBm3 := hBe3.trans hBn3
        obtain ⟨An3, cn3, rfl, hcn3, -, -⟩ := hon3.slice'
        have HO3 : Hid (Reads wn3 wn3.heap.size An3 16 (fun i => F (j + i))) := hid (hon3.reads.ext (fun i hi => by unfold cat; simp))
        have hlo3 := own_lo hon3
        have hsz3 := hBm3.size
        have HN3 := hid (HN2.out.trans (hBm3.mono HN2.out.size))
        have HO1xx := hid ((HO1x.out.below hBm3).more hBm3.size)
        have HO2x := hid ((HO2.out.below hBm3).more hBm3.size)
        have H43 := hid (H42.out.below hBm3 H42.out.lt)
        have H83 := hid (H82.out.below hBm3 H82.out.lt)
        clear hon3 hBn3 hBe3 He3 HRe3 hBm3 H42 H82 HO1x HO2
        have hr3 : #[Value.slice An1 Lk cn1, .slice An2 16 cn2, .slice An3 16 cn3] = row 3 (rowC (.slice An1 Lk cn1) (.slice An2 16 cn2) (.slice An3 16 cn3)) := rowC_eq _ _ _
        have hlt0 : w.heap.size + 1 < wn0.heap.size := hid0lt.out
        cases bk
        ·have HB4z := (Below.refl wn3.heap.size wn3).alloc (Nat.le_refl _) (.cells (row 3 (rowC (.slice An1 Lk cn1) (.slice An2 16 cn2) (.slice An3 16 cn3))) 99)
         go_wp2_with (first
          | (with_reducible refine wpl_alloc rfl 99 rfl _ zRow ?_)
          | (with_reducible refine wpl_store_newS rfl 99 _ _ rfl wn3 _ 3 _ (rowC_one _ _ _ rfl rfl rfl) rfl rfl 99 iRow (row_size _ _) ?_))
         clear hr3
         have HZr := hid (Blk.fresh wn3 99 (row 3 (rowC (.slice An1 Lk cn1) (.slice An2 16 cn2) (.slice An3 16 cn3))))
         have H4z := hid (H43.out.below HB4z H43.out.lt)
         have H8z := hid (H83.out.below HB4z H83.out.lt)
         have HNz := hid (HN3.out.trans (HB4z.mono HN3.out.size))
         have HOkz := hid ((HO1xx.out.below HB4z).more HB4z.size)
         have HOxz := hid ((HO2x.out.below HB4z).more HB4z.size)
         have HOyz := hid ((HO3.out.below HB4z).more HB4z.size)
         have hszz : Hid (wn3.heap.size < (wn3.alloc (.cells (row 3 (rowC (.slice An1 Lk cn1) (.slice An2 16 cn2) (.slice An3 16 cn3))) 99)).heap.size) := hid (by simp)
         have hltz : Hid (w.heap.size + 1 < wn0.heap.size) := hid hlt0
         have hgr0 : Hid (wn0.heap.size ≤ wn3.heap.size) := hid (by omega)
         clear HB4z HO1xx HO2x HO3 H43 H83 HN3
         generalize wn3.alloc (.cells (row 3 (rowC (.slice An1 Lk cn1) (.slice An2 16 cn2) (.slice An3 16 cn3))) 99) = wz at *
         generalize wn3.heap.size = gr at *
         have hz1 : w.heap.size + 1 < wz.heap.size := by have := hszz.out; have := hltz.out; omega
         obtain ⟨xs, hxl, hx1, hxc, hxr⟩ := (HR0.out.below (HNz.out.mono hB0)).cells
         have Hxr := hid hxr
         clear hxr
         have c4 : ∀ W, Below wz.heap.size wz W → W.cell? ⟨w.heap.size, 0, none⟩ = some (.slice Ar R.length cr) := fun W hW => (H4z.out.below hW H4z.out.lt).cell 0
         have hgrw : gr ≠ w.heap.size := by have := hltz.out; have := hgr0.out; omega
         have hxc2 : ∀ W, Below wz.heap.size wz W → ∀ q u, xs[q]? = some u → ∃ ad, Ar = some ad ∧ W.cell? (ad.add q) = some u := fun W hW q u hu => by
          obtain ⟨ad, h1, h2⟩ := hxc q u hu
          exact ⟨ad, h1, (hW.cell (p := ad.add q) (block_lt_of_cell h2)).trans h2⟩
         have hrl : R.length ≤ 1000 := hlen
         clear hxc
         have hnw : ([(.slice An1 Lk cn1 : Value), .slice An2 16 cn2, .slice An3 16 cn3] : List Value).length = 1 * 3 := rfl
         have hn1 : ∀ u ∈ ([(.slice An1 Lk cn1 : Value), .slice An2 16 cn2, .slice An3 16 cn3] : List Value), u.oneCell' = true := by simp [Value.oneCell']
         have hnc : ∀ (W : World) (g : Nat), Blk W g 99 (row 3 (rowC (.slice An1 Lk cn1) (.slice An2 16 cn2) (.slice An3 16 cn3))) → ∀ q u, ([(.slice An1 Lk cn1 : Value), .slice An2 16 cn2, .slice An3 16 cn3] : List Value)[q]? = some u → ∃ ad, some (⟨g, 0, none⟩ : Addr) = some ad ∧ W.cell? (ad.add q) = some u := fun W g hb q u hu => ⟨_, rfl, by
          rw [add_zero_off, hb.cell, ← rowC_eq]
          match q, hu with
          | 0, hu => simpa using hu
          | 1, hu => simpa using hu
          | 2, hu => simpa using hu
          | q + 3, hu => simp at hu⟩
         have c17 : ∀ W, KeptB w wz W → ∀ q, q < 3 → W.cell? ((⟨gr, 0, none⟩ : Addr).add q) = some ((rowC (.slice An1 Lk cn1) (.slice An2 16 cn2) (.slice An3 16 cn3)) q) := fun W hW q hq => by
          rw [add_zero_off]
          rw [World.cell?_of_block (w := wz) (w' := W) (a := ⟨gr, q, none⟩) (hW.1 gr HZr.out.lt hgrw)]
          exact (HZr.out.cell q).trans (row_get 3 _ q hq)
         apply suffN (F := Past24 w wz (.slice (cutA A' 16 c') (n - j - 16) (c' - 16)) (R.length + 1) (xs ++ [.slice An1 Lk cn1, .slice An2 16 cn2, .slice An3 16 cn3]))
         case h1 =>
          intro kk
          refine wp_region_held_drew (S := fun W => KeptB w wz W) (by kernel_rfl) (keptB (Below.refl _ _).drew) (fun hS0 => ?_)
          have hB0 : Below wz.heap.size wz wz.drew := (Below.refl _ _).drew
          refine wpAnyH_take (i := 1) (v := .pointer (some ⟨w.heap.size, 0, none⟩)) rfl (by kernel_rfl) (by kernel_rfl) (by kernel_rfl) (fun _ _ _ h => h) (Or.inl ⟨rfl, fun W _ => by go_simp⟩) hS0 ?_
          (try simp only [Act.put, zn1, zn2, zn3, zn4, zn5, zn6])
          refine wpAnyH_take (i := 4) (v := .agg (row 3 (rowC (.slice An1 Lk cn1) (.slice An2 16 cn2) (.slice An3 16 cn3)))) rfl (by kernel_rfl) (by kernel_rfl) (by kernel_rfl) (fun _ _ _ h => h) (Or.inl ⟨rfl, fun W hW => exec_loadSt 99 _ rfl ⟨gr, 0, none⟩ rfl 3 _ (c17 W hW) _ Tryz.underlying99 iRow⟩) hS0 ?_
          (try simp only [Act.put, zn1, zn2, zn3, zn4, zn5, zn6])
          have hd0 : wz.drew.heap.size = wz.heap.size := rfl
          generalize hwd : wz.drew = wd0 at hB0 hd0 hS0 ⊢
          clear hwd hS0
          have hB_wd0 := hB0
          refine wpAnyH_ready (rs := [0, 2, 5]) (by kernel_rfl) (by simp) ?_
          refine AllReadyH.cons rfl (fun K hK => ?_) (AllReadyH.cons rfl (fun K hK => ?_) (AllReadyH.cons rfl (fun K hK => ?_) AllReadyH.nil))
          ·(try simp only [Act.put, zn1, zn2, zn3, zn4, zn5, zn6])
           refine Eq.mpr (if_pos (by rfl)) ?_
           refine wp_valw _ (exec_bs0 34 rfl (.slice (some ⟨wd0.heap.size, 0, none⟩) 0 0) (bsR0 _)) ?_
           (try simp only [Act.put, zn1, zn2, zn3, zn4, zn5, zn6])
           refine hK.out _ _ (keptB (hB_wd0.alloc hB_wd0.size _)) (fun _ => ?_)
           (try simp only [Act.put, zn1, zn2, zn3, zn4, zn5, zn6])
           clear hK K
           have hoE1 := OwnL.empty wd0 wz.heap.size hB_wd0.size
           have hB_wx1 := hB_wd0.alloc hB_wd0.size (.cells #[] 99)
           have hsE1 : wd0.heap.size < (wd0.alloc (.cells #[] 99)).heap.size := by simp
           generalize hw1 : wd0.alloc (.cells #[] 99) = wx1 at hoE1 hB_wx1 hsE1 ⊢
           clear hw1
           refine wpAnyH_ready (rs := [2, 5]) (by kernel_rfl) (by simp) ?_
           refine AllReadyH.cons rfl (fun K hK => ?_) (AllReadyH.cons rfl (fun K hK => ?_) AllReadyH.nil)
           ·(try simp only [Act.put, zn1, zn2, zn3, zn4, zn5, zn6])
            refine Eq.mpr (if_pos (by rfl)) ?_
            refine wp_valw _ (exec_ldsl 34 _ rfl ⟨w.heap.size, 0, none⟩ rfl 99 Tryz.underlying34 (.slice Ar R.length cr) (c4 _ hB_wx1)) ?_
            (try simp only [Act.put, zn1, zn2, zn3, zn4, zn5, zn6])
            refine hK.out _ _ (keptB hB_wx1) (fun _ => ?_)
            (try simp only [Act.put, zn1, zn2, zn3, zn4, zn5, zn6])
            clear hK K
            refine wpAnyH_ready (rs := [3, 5]) (by kernel_rfl) (by simp) ?_
            refine AllReadyH.cons rfl (fun K hK => ?_) (AllReadyH.cons rfl (fun K hK => ?_) AllReadyH.nil)
            ·(try simp only [Act.put, zn1, zn2, zn3, zn4, zn5, zn6])
             refine Eq.mpr (if_pos (by rfl)) ?_
             refine wp_appL _ _ rfl wz.heap.size _ 0 [] rfl hoE1 Ar R.length cr xs rfl hxl HAr.out (hxc2 _ hB_wx1) hx1 (by omega) hB_wx1.size ?_
             intro v3_3 wx3 ho3_3 hB3_3 hG3_3
             (try simp only [Act.put, zn1, zn2, zn3, zn4, zn5, zn6])
             have hB_wx3 := hB_wx1.trans hB3_3
             refine hK.out _ _ (keptB hB_wx3) (fun _ => ?_)
             (try simp only [Act.put, zn1, zn2, zn3, zn4, zn5, zn6])
             clear hK K
             rw [Nat.zero_add, List.nil_append] at ho3_3
             refine wpAnyH_ready (rs := [5]) (by kernel_rfl) (by simp) (AllReadyH.cons rfl (fun K hK => ?_) AllReadyH.nil)
             (try simp only [Act.put, zn1, zn2, zn3, zn4, zn5, zn6])
             refine Eq.mpr (if_pos (by rfl)) ?_
             refine wp_valw _ (exec_bs1 34 _ rfl (.agg (row 3 (rowC (.slice An1 Lk cn1) (.slice An2 16 cn2) (.slice An3 16 cn3)))) (.slice (some ⟨wx3.heap.size, 0, none⟩) 1 1) rfl (bsR1 _ _ _ _)) ?_
             (try simp only [Act.put, zn1, zn2, zn3, zn4, zn5, zn6])
             refine hK.out _ _ (keptB (hB_wx3.alloc hB_wx3.size _)) (fun _ => ?_)
             (try simp only [Act.put, zn1, zn2, zn3, zn4, zn5, zn6])
             clear hK K
             have hb5_4 := Blk.fresh wx3 99 (row 3 (rowC (.slice An1 Lk cn1) (.slice An2 16 cn2) (.slice An3 16 cn3)))
             have hB_wx4 := hB_wx3.alloc hB_wx3.size (.cells (row 3 (rowC (.slice An1 Lk cn1) (.slice An2 16 cn2) (.slice An3 16 cn3))) 99)
             have own0_4 := OwnL.alloc hoE1 (.cells (row 3 (rowC (.slice An1 Lk cn1) (.slice An2 16 cn2) (.slice An3 16 cn3))) 99)
             have own3_4 := OwnL.alloc ho3_3 (.cells (row 3 (rowC (.slice An1 Lk cn1) (.slice An2 16 cn2) (.slice An3 16 cn3))) 99)
             generalize hw4 : wx3.alloc (.cells (row 3 (rowC (.slice An1 Lk cn1) (.slice An2 16 cn2) (.slice An3 16 cn3))) 99) = wx4 at hb5_4 hB_wx4 own0_4 own3_4 ⊢
             clear hw4
             refine wpAnyH_ready (rs := [6]) (by kernel_rfl) (by simp) (AllReadyH.cons rfl (fun K hK => ?_) AllReadyH.nil)
             (try simp only [Act.put, zn1, zn2, zn3, zn4, zn5, zn6])
             refine Eq.mpr (if_pos (by rfl)) ?_
             refine wp_appL _ _ rfl wz.heap.size _ R.length xs rfl own3_4 (some ⟨wx3.heap.size, 0, none⟩) 1 1 [.slice An1 Lk cn1, .slice An2 16 cn2, .slice An3 16 cn3] rfl hnw (fun h => by cases h) (hnc _ _ hb5_4) hn1 (by omega) hB_wx4.size ?_
             intro v6 W6 ho6 hB6 _
             (try simp only [Act.put, zn1, zn2, zn3, zn4, zn5, zn6])
             have hB_W6 := hB_wx4.trans hB6
             refine hK.out _ _ (keptB hB_W6) (fun _ => ?_)
             (try simp only [Act.put, zn1, zn2, zn3, zn4, zn5, zn6])
             clear hK K
             refine wpAnyH_take (i := 7) (v := .pointer (some ⟨w.heap.size, 0, none⟩)) rfl (by kernel_rfl) (by kernel_rfl) (by kernel_rfl) (fun _ _ _ h => h) (Or.inl ⟨rfl, fun W _ => by go_simp⟩) (keptB hB_W6) ?_
             (try simp only [Act.put, zn1, zn2, zn3, zn4, zn5, zn6])
             refine wpAnyH_ready (rs := [8]) (by kernel_rfl) (by simp) (AllReadyH.cons rfl (fun K hK => ?_) AllReadyH.nil)
             (try simp only [Act.put, zn1, zn2, zn3, zn4, zn5, zn6])
             refine Eq.mpr (if_pos (by rfl)) ?_
             have hv6 : ∃ A6 c6, v6 = .slice A6 (R.length + 1) c6 := by
              rcases ho6.2 with ⟨h1, h2⟩ | ⟨g, c6, cur, h1, -⟩
              ·omega
              ·exact ⟨_, _, h1⟩
             have h1v : v6.oneCell' = true := by obtain ⟨A6, c6, rfl⟩ := hv6; rfl
             have h2v : v6.cells = #[v6] := by obtain ⟨A6, c6, rfl⟩ := hv6; rfl
             refine wp_skipw (exec_stV 34 _ _ rfl ⟨w.heap.size, 0, none⟩ rfl v6 rfl h1v h2v iSRow _ (c4 _ hB_W6) ((H4z.out.below hB_W6 H4z.out.lt).free 0)) ?_
             (try simp only [Act.put, zn1, zn2, zn3, zn4, zn5, zn6])
             have hp := past24 hz1 H4z.out H8z.out hB_W6 ho6
             refine hK.out _ _ ⟨hp.kept, hp.size⟩ (fun _ => ?_)
             (try simp only [Act.put, zn1, zn2, zn3, zn4, zn5, zn6])
             clear hK K
             refine wpAnyH_done (by kernel_rfl) ?_ _
             generalize W6.setCell ⟨w.heap.size, 0, none⟩ v6 = W7 at hp ⊢
             generalize Value.slice (some ⟨wd0.heap.size, 0, none⟩) 0 0 = va
             generalize Value.slice (some ⟨wx3.heap.size, 0, none⟩) 1 1 = vc
             exact kk W7 va v3_3 vc v6 hp
            ·(try simp only [Act.put, zn1, zn2, zn3, zn4, zn5, zn6])
             refine Eq.mpr (if_pos (by rfl)) ?_
             refine wp_valw _ (exec_bs1 34 _ rfl (.agg (row 3 (rowC (.slice An1 Lk cn1) (.slice An2 16 cn2) (.slice An3 16 cn3)))) (.slice (some ⟨wx1.heap.size, 0, none⟩) 1 1) rfl (bsR1 _ _ _ _)) ?_
             (try simp only [Act.put, zn1, zn2, zn3, zn4, zn5, zn6])
             refine hK.out _ _ (keptB (hB_wx1.alloc hB_wx1.size _)) (fun _ => ?_)
             (try simp only [Act.put, zn1, zn2, zn3, zn4, zn5, zn6])
             clear hK K
             have hb5_6 := Blk.fresh wx1 99 (row 3 (rowC (.slice An1 Lk cn1) (.slice An2 16 cn2) (.slice An3 16 cn3)))
             have hB_wx6 := hB_wx1.alloc hB_wx1.size (.cells (row 3 (rowC (.slice An1 Lk cn1) (.slice An2 16 cn2) (.slice An3 16 cn3))) 99)
             have own0_6 := OwnL.alloc hoE1 (.cells (row 3 (rowC (.slice An1 Lk cn1) (.slice An2 16 cn2) (.slice An3 16 cn3))) 99)
             generalize hw6 : wx1.alloc (.cells (row 3 (rowC (.slice An1 Lk cn1) (.slice An2 16 cn2) (.slice An3 16 cn3))) 99) = wx6 at hb5_6 hB_wx6 own0_6 ⊢
             clear hw6
             refine wpAnyH_ready (rs := [3]) (by kernel_rfl) (by simp) (AllReadyH.cons rfl (fun K hK => ?_) AllReadyH.nil)
             (try simp only [Act.put, zn1, zn2, zn3, zn4, zn5, zn6])
             refine Eq.mpr (if_pos (by rfl)) ?_
             refine wp_appL _ _ rfl wz.heap.size _ 0 [] rfl own0_6 Ar R.length cr xs rfl hxl HAr.out (hxc2 _ hB_wx6) hx1 (by omega) hB_wx6.size ?_
             intro v3_7 wx7 ho3_7 hB3_7 hG3_7
             (try simp only [Act.put, zn1, zn2, zn3, zn4, zn5, zn6])
             have hB_wx7 := hB_wx6.trans hB3_7
             refine hK.out _ _ (keptB hB_wx7) (fun _ => ?_)
             (try simp only [Act.put, zn1, zn2, zn3, zn4, zn5, zn6])
             clear hK K
             rw [Nat.zero_add, List.nil_append] at ho3_7
             have hb5_7 := hb5_6.grown hG3_7 (ne_own (by omega))
             refine wpAnyH_ready (rs := [6]) (by kernel_rfl) (by simp) (AllReadyH.cons rfl (fun K hK => ?_) AllReadyH.nil)
             (try simp only [Act.put, zn1, zn2, zn3, zn4, zn5, zn6])
             refine Eq.mpr (if_pos (by rfl)) ?_
             refine wp_appL _ _ rfl wz.heap.size _ R.length xs rfl ho3_7 (some ⟨wx1.heap.size, 0, none⟩) 1 1 [.slice An1 Lk cn1, .slice An2 16 cn2, .slice An3 16 cn3] rfl hnw (fun h => by cases h) (hnc _ _ hb5_7) hn1 (by omega) hB_wx7.size ?_
             intro v6 W6 ho6 hB6 _
             (try simp only [Act.put, zn1, zn2, zn3, zn4, zn5, zn6])
             have hB_W6 := hB_wx7.trans hB6
             refine hK.out _ _ (keptB hB_W6) (fun _ => ?_)
             (try simp only [Act.put, zn1, zn2, zn3, zn4, zn5, zn6])
             clear hK K
             refine wpAnyH_take (i := 7) (v := .pointer (some ⟨w.heap.size, 0, none⟩)) rfl (by kernel_rfl) (by kernel_rfl) (by kernel_rfl) (fun _ _ _ h => h) (Or.inl ⟨rfl, fun W _ => by go_simp⟩) (keptB hB_W6) ?_
             (try simp only [Act.put, zn1, zn2, zn3, zn4, zn5, zn6])
             refine wpAnyH_ready (rs := [8]) (by kernel_rfl) (by simp) (AllReadyH.cons rfl (fun K hK => ?_) AllReadyH.nil)
             (try simp only [Act.put, zn1, zn2, zn3, zn4, zn5, zn6])
             refine Eq.mpr (if_pos (by rfl)) ?_
             have hv6 : ∃ A6 c6, v6 = .slice A6 (R.length + 1) c6 := by
              rcases ho6.2 with ⟨h1, h2⟩ | ⟨g, c6, cur, h1, -⟩
              ·omega
              ·exact ⟨_, _, h1⟩
             have h1v : v6.oneCell' = true := by obtain ⟨A6, c6, rfl⟩ := hv6; rfl
             have h2v : v6.cells = #[v6] := by obtain ⟨A6, c6, rfl⟩ := hv6; rfl
             refine wp_skipw (exec_stV 34 _ _ rfl ⟨w.heap.size, 0, none⟩ rfl v6 rfl h1v h2v iSRow _ (c4 _ hB_W6) ((H4z.out.below hB_W6 H4z.out.lt).free 0)) ?_
             (try simp only [Act.put, zn1, zn2, zn3, zn4, zn5, zn6])
             have hp := past24 hz1 H4z.out H8z.out hB_W6 ho6
             refine hK.out _ _ ⟨hp.kept, hp.size⟩ (fun _ => ?_)
             (try simp only [Act.put, zn1, zn2, zn3, zn4, zn5, zn6])
             clear hK K
             refine wpAnyH_done (by kernel_rfl) ?_ _
             generalize W6.setCell ⟨w.heap.size, 0, none⟩ v6 = W7 at hp ⊢
             generalize Value.slice (some ⟨wd0.heap.size, 0, none⟩) 0 0 = va
             generalize Value.slice (some ⟨wx1.heap.size, 0, none⟩) 1 1 = vc
             exact kk W7 va v3_7 vc v6 hp
           ·(try simp only [Act.put, zn1, zn2, zn3, zn4, zn5, zn6])
            refine Eq.mpr (if_pos (by rfl)) ?_
            refine wp_valw _ (exec_bs1 34 _ rfl (.agg (row 3 (rowC (.slice An1 Lk cn1) (.slice An2 16 cn2) (.slice An3 16 cn3)))) (.slice (some ⟨wx1.heap.size, 0, none⟩) 1 1) rfl (bsR1 _ _ _ _)) ?_
            (try simp only [Act.put, zn1, zn2, zn3, zn4, zn5, zn6])
            refine hK.out _ _ (keptB (hB_wx1.alloc hB_wx1.size _)) (fun _ => ?_)
            (try simp only [Act.put, zn1, zn2, zn3, zn4, zn5, zn6])
            clear hK K
            have hb5_9 := Blk.fresh wx1 99 (row 3 (rowC (.slice An1 Lk cn1) (.slice An2 16 cn2) (.slice An3 16 cn3)))
            have hB_wx9 := hB_wx1.alloc hB_wx1.size (.cells (row 3 (rowC (.slice An1 Lk cn1) (.slice An2 16 cn2) (.slice An3 16 cn3))) 99)
            have own0_9 := OwnL.alloc hoE1 (.cells (row 3 (rowC (.slice An1 Lk cn1) (.slice An2 16 cn2) (.slice An3 16 cn3))) 99)
            generalize hw9 : wx1.alloc (.cells (row 3 (rowC (.slice An1 Lk cn1) (.slice An2 16 cn2) (.slice An3 16 cn3))) 99) = wx9 at hb5_9 hB_wx9 own0_9 ⊢
            clear hw9
            refine wpAnyH_ready (rs := [2]) (by kernel_rfl) (by simp) (AllReadyH.cons rfl (fun K hK => ?_) AllReadyH.nil)
            (try simp only [Act.put, zn1, zn2, zn3, zn4, zn5, zn6])
            refine Eq.mpr (if_pos (by rfl)) ?_
            refine wp_valw _ (exec_ldsl 34 _ rfl ⟨w.heap.size, 0, none⟩ rfl 99 Tryz.underlying34 (.slice Ar R.length cr) (c4 _ hB_wx9)) ?_
            (try simp only [Act.put, zn1, zn2, zn3, zn4, zn5, zn6])
            refine hK.out _ _ (keptB hB_wx9) (fun _ => ?_)
            (try simp only [Act.put, zn1, zn2, zn3, zn4, zn5, zn6])
            clear hK K
            refine wpAnyH_ready (rs := [3]) (by kernel_rfl) (by simp) (AllReadyH.cons rfl (fun K hK => ?_) AllReadyH.nil)
            (try simp only [Act.put, zn1, zn2, zn3, zn4, zn5, zn6])
            refine Eq.mpr (if_pos (by rfl)) ?_
            refine wp_appL _ _ rfl wz.heap.size _ 0 [] rfl own0_9 Ar R.length cr xs rfl hxl HAr.out (hxc2 _ hB_wx9) hx1 (by omega) hB_wx9.size ?_
            intro v3_11 wx11 ho3_11 hB3_11 hG3_11
            (try simp only [Act.put, zn1, zn2, zn3, zn4, zn5, zn6])
            have hB_wx11 := hB_wx9.trans hB3_11
            refine hK.out _ _ (keptB hB_wx11) (fun _ => ?_)
            (try simp only [Act.put, zn1, zn2, zn3, zn4, zn5, zn6])
            clear hK K
            rw [Nat.zero_add, List.nil_append] at ho3_11
            have hb5_11 := hb5_9.grown hG3_11 (ne_own (by omega))
            refine wpAnyH_ready (rs := [6]) (by kernel_rfl) (by simp) (AllReadyH.cons rfl (fun K hK => ?_) AllReadyH.nil)
            (try simp only [Act.put, zn1, zn2, zn3, zn4, zn5, zn6])
            refine Eq.mpr (if_pos (by rfl)) ?_
            refine wp_appL _ _ rfl wz.heap.size _ R.length xs rfl ho3_11 (some ⟨wx1.heap.size, 0, none⟩) 1 1 [.slice An1 Lk cn1, .slice An2 16 cn2, .slice An3 16 cn3] rfl hnw (fun h => by cases h) (hnc _ _ hb5_11) hn1 (by omega) hB_wx11.size ?_
            intro v6 W6 ho6 hB6 _
            (try simp only [Act.put, zn1, zn2, zn3, zn4, zn5, zn6])
            have hB_W6 := hB_wx11.trans hB6
            refine hK.out _ _ (keptB hB_W6) (fun _ => ?_)
            (try simp only [Act.put, zn1, zn2, zn3, zn4, zn5, zn6])
            clear hK K
            refine wpAnyH_take (i := 7) (v := .pointer (some ⟨w.heap.size, 0, none⟩)) rfl (by kernel_rfl) (by kernel_rfl) (by kernel_rfl) (fun _ _ _ h => h) (Or.inl ⟨rfl, fun W _ => by go_simp⟩) (keptB hB_W6) ?_
            (try simp only [Act.put, zn1, zn2, zn3, zn4, zn5, zn6])
            refine wpAnyH_ready (rs := [8]) (by kernel_rfl) (by simp) (AllReadyH.cons rfl (fun K hK => ?_) AllReadyH.nil)
            (try simp only [Act.put, zn1, zn2, zn3, zn4, zn5, zn6])
            refine Eq.mpr (if_pos (by rfl)) ?_
            have hv6 : ∃ A6 c6, v6 = .slice A6 (R.length + 1) c6 := by
             rcases ho6.2 with ⟨h1, h2⟩ | ⟨g, c6, cur, h1, -⟩
             ·omega
             ·exact ⟨_, _, h1⟩
            have h1v : v6.oneCell' = true := by obtain ⟨A6, c6, rfl⟩ := hv6; rfl
            have h2v : v6.cells = #[v6] := by obtain ⟨A6, c6, rfl⟩ := hv6; rfl
            refine wp_skipw (exec_stV 34 _ _ rfl ⟨w.heap.size, 0, none⟩ rfl v6 rfl h1v h2v iSRow _ (c4 _ hB_W6) ((H4z.out.below hB_W6 H4z.out.lt).free 0)) ?_
            (try simp only [Act.put, zn1, zn2, zn3, zn4, zn5, zn6])
            have hp := past24 hz1 H4z.out H8z.out hB_W6 ho6
            refine hK.out _ _ ⟨hp.kept, hp.size⟩ (fun _ => ?_)
            (try simp only [Act.put, zn1, zn2, zn3, zn4, zn5, zn6])
            clear hK K
            refine wpAnyH_done (by kernel_rfl) ?_ _
            generalize W6.setCell ⟨w.heap.size, 0, none⟩ v6 = W7 at hp ⊢
            generalize Value.slice (some ⟨wd0.heap.size, 0, none⟩) 0 0 = va
            generalize Value.slice (some ⟨wx1.heap.size, 0, none⟩) 1 1 = vc
            exact kk W7 va v3_11 vc v6 hp
          ·(try simp only [Act.put, zn1, zn2, zn3, zn4, zn5, zn6])
           refine Eq.mpr (if_pos (by rfl)) ?_
           refine wp_valw _ (exec_ldsl 34 _ rfl ⟨w.heap.size, 0, none⟩ rfl 99 Tryz.underlying34 (.slice Ar R.length cr) (c4 _ hB_wd0)) ?_
           (try simp only [Act.put, zn1, zn2, zn3, zn4, zn5, zn6])
           refine hK.out _ _ (keptB hB_wd0) (fun _ => ?_)
           (try simp only [Act.put, zn1, zn2, zn3, zn4, zn5, zn6])
           clear hK K
           refine wpAnyH_ready (rs := [0, 5]) (by kernel_rfl) (by simp) ?_
           refine AllReadyH.cons rfl (fun K hK => ?_) (AllReadyH.cons rfl (fun K hK => ?_) AllReadyH.nil)
           ·(try simp only [Act.put, zn1, zn2, zn3, zn4, zn5, zn6])
            refine Eq.mpr (if_pos (by rfl)) ?_
            refine wp_valw _ (exec_bs0 34 rfl (.slice (some ⟨wd0.heap.size, 0, none⟩) 0 0) (bsR0 _)) ?_
            (try simp only [Act.put, zn1, zn2, zn3, zn4, zn5, zn6])
            refine hK.out _ _ (keptB (hB_wd0.alloc hB_wd0.size _)) (fun _ => ?_)
            (try simp only [Act.put, zn1, zn2, zn3, zn4, zn5, zn6])
            clear hK K
            have hoE14 := OwnL.empty wd0 wz.heap.size hB_wd0.size
            have hB_wx14 := hB_wd0.alloc hB_wd0.size (.cells #[] 99)
            have hsE14 : wd0.heap.size < (wd0.alloc (.cells #[] 99)).heap.size := by simp
            generalize hw14 : wd0.alloc (.cells #[] 99) = wx14 at hoE14 hB_wx14 hsE14 ⊢
            clear hw14
            refine wpAnyH_ready (rs := [3, 5]) (by kernel_rfl) (by simp) ?_
            refine AllReadyH.cons rfl (fun K hK => ?_) (AllReadyH.cons rfl (fun K hK => ?_) AllReadyH.nil)
            ·(try simp only [Act.put, zn1, zn2, zn3, zn4, zn5, zn6])
             refine Eq.mpr (if_pos (by rfl)) ?_
             refine wp_appL _ _ rfl wz.heap.size _ 0 [] rfl hoE14 Ar R.length cr xs rfl hxl HAr.out (hxc2 _ hB_wx14) hx1 (by omega) hB_wx14.size ?_
             intro v3_15 wx15 ho3_15 hB3_15 hG3_15
             (try simp only [Act.put, zn1, zn2, zn3, zn4, zn5, zn6])
             have hB_wx15 := hB_wx14.trans hB3_15
             refine hK.out _ _ (keptB hB_wx15) (fun _ => ?_)
             (try simp only [Act.put, zn1, zn2, zn3, zn4, zn5, zn6])
             clear hK K
             rw [Nat.zero_add, List.nil_append] at ho3_15
             refine wpAnyH_ready (rs := [5]) (by kernel_rfl) (by simp) (AllReadyH.cons rfl (fun K hK => ?_) AllReadyH.nil)
             (try simp only [Act.put, zn1, zn2, zn3, zn4, zn5, zn6])
             refine Eq.mpr (if_pos (by rfl)) ?_
             refine wp_valw _ (exec_bs1 34 _ rfl (.agg (row 3 (rowC (.slice An1 Lk cn1) (.slice An2 16 cn2) (.slice An3 16 cn3)))) (.slice (some ⟨wx15.heap.size, 0, none⟩) 1 1) rfl (bsR1 _ _ _ _)) ?_
             (try simp only [Act.put, zn1, zn2, zn3, zn4, zn5, zn6])
             refine hK.out _ _ (keptB (hB_wx15.alloc hB_wx15.size _)) (fun _ => ?_)
             (try simp only [Act.put, zn1, zn2, zn3, zn4, zn5, zn6])
             clear hK K
             have hb5_16 := Blk.fresh wx15 99 (row 3 (rowC (.slice An1 Lk cn1) (.slice An2 16 cn2) (.slice An3 16 cn3)))
             have hB_wx16 := hB_wx15.alloc hB_wx15.size (.cells (row 3 (rowC (.slice An1 Lk cn1) (.slice An2 16 cn2) (.slice An3 16 cn3))) 99)
             have own0_16 := OwnL.alloc hoE14 (.cells (row 3 (rowC (.slice An1 Lk cn1) (.slice An2 16 cn2) (.slice An3 16 cn3))) 99)
             have own3_16 := OwnL.alloc ho3_15 (.cells (row 3 (rowC (.slice An1 Lk cn1) (.slice An2 16 cn2) (.slice An3 16 cn3))) 99)
             generalize hw16 : wx15.alloc (.cells (row 3 (rowC (.slice An1 Lk cn1) (.slice An2 16 cn2) (.slice An3 16 cn3))) 99) = wx16 at hb5_16 hB_wx16 own0_16 own3_16 ⊢
             clear hw16
             refine wpAnyH_ready (rs := [6]) (by kernel_rfl) (by simp) (AllReadyH.cons rfl (fun K hK => ?_) AllReadyH.nil)
             (try simp only [Act.put, zn1, zn2, zn3, zn4, zn5, zn6])
             refine Eq.mpr (if_pos (by rfl)) ?_
             refine wp_appL _ _ rfl wz.heap.size _ R.length xs rfl own3_16 (some ⟨wx15.heap.size, 0, none⟩) 1 1 [.slice An1 Lk cn1, .slice An2 16 cn2, .slice An3 16 cn3] rfl hnw (fun h => by cases h) (hnc _ _ hb5_16) hn1 (by omega) hB_wx16.size ?_
             intro v6 W6 ho6 hB6 _
             (try simp only [Act.put, zn1, zn2, zn3, zn4, zn5, zn6])
             have hB_W6 := hB_wx16.trans hB6
             refine hK.out _ _ (keptB hB_W6) (fun _ => ?_)
             (try simp only [Act.put, zn1, zn2, zn3, zn4, zn5, zn6])
             clear hK K
             refine wpAnyH_take (i := 7) (v := .pointer (some ⟨w.heap.size, 0, none⟩)) rfl (by kernel_rfl) (by kernel_rfl) (by kernel_rfl) (fun _ _ _ h => h) (Or.inl ⟨rfl, fun W _ => by go_simp⟩) (keptB hB_W6) ?_
             (try simp only [Act.put, zn1, zn2, zn3, zn4, zn5, zn6])
             refine wpAnyH_ready (rs := [8]) (by kernel_rfl) (by simp) (AllReadyH.cons rfl (fun K hK => ?_) AllReadyH.nil)
             (try simp only [Act.put, zn1, zn2, zn3, zn4, zn5, zn6])
             refine Eq.mpr (if_pos (by rfl)) ?_
             have hv6 : ∃ A6 c6, v6 = .slice A6 (R.length + 1) c6 := by
              rcases ho6.2 with ⟨h1, h2⟩ | ⟨g, c6, cur, h1, -⟩
              ·omega
              ·exact ⟨_, _, h1⟩
             have h1v : v6.oneCell' = true := by obtain ⟨A6, c6, rfl⟩ := hv6; rfl
             have h2v : v6.cells = #[v6] := by obtain ⟨A6, c6, rfl⟩ := hv6; rfl
             refine wp_skipw (exec_stV 34 _ _ rfl ⟨w.heap.size, 0, none⟩ rfl v6 rfl h1v h2v iSRow _ (c4 _ hB_W6) ((H4z.out.below hB_W6 H4z.out.lt).free 0)) ?_
             (try simp only [Act.put, zn1, zn2, zn3, zn4, zn5, zn6])
             have hp := past24 hz1 H4z.out H8z.out hB_W6 ho6
             refine hK.out _ _ ⟨hp.kept, hp.size⟩ (fun _ => ?_)
             (try simp only [Act.put, zn1, zn2, zn3, zn4, zn5, zn6])
             clear hK K
             refine wpAnyH_done (by kernel_rfl) ?_ _
             generalize W6.setCell ⟨w.heap.size, 0, none⟩ v6 = W7 at hp ⊢
             generalize Value.slice (some ⟨wd0.heap.size, 0, none⟩) 0 0 = va
             generalize Value.slice (some ⟨wx15.heap.size, 0, none⟩) 1 1 = vc
             exact kk W7 va v3_15 vc v6 hp
            ·(try simp only [Act.put, zn1, zn2, zn3, zn4, zn5, zn6])
             refine Eq.mpr (if_pos (by rfl)) ?_
             refine wp_valw _ (exec_bs1 34 _ rfl (.agg (row 3 (rowC (.slice An1 Lk cn1) (.slice An2 16 cn2) (.slice An3 16 cn3)))) (.slice (some ⟨wx14.heap.size, 0, none⟩) 1 1) rfl (bsR1 _ _ _ _)) ?_
             (try simp only [Act.put, zn1, zn2, zn3, zn4, zn5, zn6])
             refine hK.out _ _ (keptB (hB_wx14.alloc hB_wx14.size _)) (fun _ => ?_)
             (try simp only [Act.put, zn1, zn2, zn3, zn4, zn5, zn6])
             clear hK K
             have hb5_18 := Blk.fresh wx14 99 (row 3 (rowC (.slice An1 Lk cn1) (.slice An2 16 cn2) (.slice An3 16 cn3)))
             have hB_wx18 := hB_wx14.alloc hB_wx14.size (.cells (row 3 (rowC (.slice An1 Lk cn1) (.slice An2 16 cn2) (.slice An3 16 cn3))) 99)
             have own0_18 := OwnL.alloc hoE14 (.cells (row 3 (rowC (.slice An1 Lk cn1) (.slice An2 16 cn2) (.slice An3 16 cn3))) 99)
             generalize hw18 : wx14.alloc (.cells (row 3 (rowC (.slice An1 Lk cn1) (.slice An2 16 cn2) (.slice An3 16 cn3))) 99) = wx18 at hb5_18 hB_wx18 own0_18 ⊢
             clear hw18
             refine wpAnyH_ready (rs := [3]) (by kernel_rfl) (by simp) (AllReadyH.cons rfl (fun K hK => ?_) AllReadyH.nil)
             (try simp only [Act.put, zn1, zn2, zn3, zn4, zn5, zn6])
             refine Eq.mpr (if_pos (by rfl)) ?_
             refine wp_appL _ _ rfl wz.heap.size _ 0 [] rfl own0_18 Ar R.length cr xs rfl hxl HAr.out (hxc2 _ hB_wx18) hx1 (by omega) hB_wx18.size ?_
             intro v3_19 wx19 ho3_19 hB3_19 hG3_19
             (try simp only [Act.put, zn1, zn2, zn3, zn4, zn5, zn6])
             have hB_wx19 := hB_wx18.trans hB3_19
             refine hK.out _ _ (keptB hB_wx19) (fun _ => ?_)
             (try simp only [Act.put, zn1, zn2, zn3, zn4, zn5, zn6])
             clear hK K
             rw [Nat.zero_add, List.nil_append] at ho3_19
             have hb5_19 := hb5_18.grown hG3_19 (ne_own (by omega))
             refine wpAnyH_ready (rs := [6]) (by kernel_rfl) (by simp) (AllReadyH.cons rfl (fun K hK => ?_) AllReadyH.nil)
             (try simp only [Act.put, zn1, zn2, zn3, zn4, zn5, zn6])
             refine Eq.mpr (if_pos (by rfl)) ?_
             refine wp_appL _ _ rfl wz.heap.size _ R.length xs rfl ho3_19 (some ⟨wx14.heap.size, 0, none⟩) 1 1 [.slice An1 Lk cn1, .slice An2 16 cn2, .slice An3 16 cn3] rfl hnw (fun h => by cases h) (hnc _ _ hb5_19) hn1 (by omega) hB_wx19.size ?_
             intro v6 W6 ho6 hB6 _
             (try simp only [Act.put, zn1, zn2, zn3, zn4, zn5, zn6])
             have hB_W6 := hB_wx19.trans hB6
             refine hK.out _ _ (keptB hB_W6) (fun _ => ?_)
             (try simp only [Act.put, zn1, zn2, zn3, zn4, zn5, zn6])
             clear hK K
             refine wpAnyH_take (i := 7) (v := .pointer (some ⟨w.heap.size, 0, none⟩)) rfl (by kernel_rfl) (by kernel_rfl) (by kernel_rfl) (fun _ _ _ h => h) (Or.inl ⟨rfl, fun W _ => by go_simp⟩) (keptB hB_W6) ?_
             (try simp only [Act.put, zn1, zn2, zn3, zn4, zn5, zn6])
             refine wpAnyH_ready (rs := [8]) (by kernel_rfl) (by simp) (AllReadyH.cons rfl (fun K hK => ?_) AllReadyH.nil)
             (try simp only [Act.put, zn1, zn2, zn3, zn4, zn5, zn6])
             refine Eq.mpr (if_pos (by rfl)) ?_
             have hv6 : ∃ A6 c6, v6 = .slice A6 (R.length + 1) c6 := by
              rcases ho6.2 with ⟨h1, h2⟩ | ⟨g, c6, cur, h1, -⟩
              ·omega
              ·exact ⟨_, _, h1⟩
             have h1v : v6.oneCell' = true := by obtain ⟨A6, c6, rfl⟩ := hv6; rfl
             have h2v : v6.cells = #[v6] := by obtain ⟨A6, c6, rfl⟩ := hv6; rfl
             refine wp_skipw (exec_stV 34 _ _ rfl ⟨w.heap.size, 0, none⟩ rfl v6 rfl h1v h2v iSRow _ (c4 _ hB_W6) ((H4z.out.below hB_W6 H4z.out.lt).free 0)) ?_
             (try simp only [Act.put, zn1, zn2, zn3, zn4, zn5, zn6])
             have hp := past24 hz1 H4z.out H8z.out hB_W6 ho6
             refine hK.out _ _ ⟨hp.kept, hp.size⟩ (fun _ => ?_)
             (try simp only [Act.put, zn1, zn2, zn3, zn4, zn5, zn6])
             clear hK K
             refine wpAnyH_done (by kernel_rfl) ?_ _
             generalize W6.setCell ⟨w.heap.size, 0, none⟩ v6 = W7 at hp ⊢
             generalize Value.slice (some ⟨wd0.heap.size, 0, none⟩) 0 0 = va
             generalize Value.slice (some ⟨wx14.heap.size, 0, none⟩) 1 1 = vc
             exact kk W7 va v3_19 vc v6 hp
           ·(try simp only [Act.put, zn1, zn2, zn3, zn4, zn5, zn6])
            refine Eq.mpr (if_pos (by rfl)) ?_
            refine wp_valw _ (exec_bs1 34 _ rfl (.agg (row 3 (rowC (.slice An1 Lk cn1) (.slice An2 16 cn2) (.slice An3 16 cn3)))) (.slice (some ⟨wd0.heap.size, 0, none⟩) 1 1) rfl (bsR1 _ _ _ _)) ?_
            (try simp only [Act.put, zn1, zn2, zn3, zn4, zn5, zn6])
            refine hK.out _ _ (keptB (hB_wd0.alloc hB_wd0.size _)) (fun _ => ?_)
            (try simp only [Act.put, zn1, zn2, zn3, zn4, zn5, zn6])
            clear hK K
            have hb5_21 := Blk.fresh wd0 99 (row 3 (rowC (.slice An1 Lk cn1) (.slice An2 16 cn2) (.slice An3 16 cn3)))
            have hB_wx21 := hB_wd0.alloc hB_wd0.size (.cells (row 3 (rowC (.slice An1 Lk cn1) (.slice An2 16 cn2) (.slice An3 16 cn3))) 99)
            generalize hw21 : wd0.alloc (.cells (row 3 (rowC (.slice An1 Lk cn1) (.slice An2 16 cn2) (.slice An3 16 cn3))) 99) = wx21 at hb5_21 hB_wx21 ⊢
            clear hw21
            refine wpAnyH_ready (rs := [0]) (by kernel_rfl) (by simp) (AllReadyH.cons rfl (fun K hK => ?_) AllReadyH.nil)
            (try simp only [Act.put, zn1, zn2, zn3, zn4, zn5, zn6])
            refine Eq.mpr (if_pos (by rfl)) ?_
            refine wp_valw _ (exec_bs0 34 rfl (.slice (some ⟨wx21.heap.size, 0, none⟩) 0 0) (bsR0 _)) ?_
            (try simp only [Act.put, zn1, zn2, zn3, zn4, zn5, zn6])
            refine hK.out _ _ (keptB (hB_wx21.alloc hB_wx21.size _)) (fun _ => ?_)
            (try simp only [Act.put, zn1, zn2, zn3, zn4, zn5, zn6])
            clear hK K
            have hoE22 := OwnL.empty wx21 wz.heap.size hB_wx21.size
            have hB_wx22 := hB_wx21.alloc hB_wx21.size (.cells #[] 99)
            have hsE22 : wx21.heap.size < (wx21.alloc (.cells #[] 99)).heap.size := by simp
            have hb5_22 := hb5_21.alloc (.cells #[] 99)
            have hb5l_22 := hb5_21.lt
            generalize hw22 : wx21.alloc (.cells #[] 99) = wx22 at hoE22 hB_wx22 hsE22 hb5_22 ⊢
            clear hw22
            refine wpAnyH_ready (rs := [3]) (by kernel_rfl) (by simp) (AllReadyH.cons rfl (fun K hK => ?_) AllReadyH.nil)
            (try simp only [Act.put, zn1, zn2, zn3, zn4, zn5, zn6])
            refine Eq.mpr (if_pos (by rfl)) ?_
            refine wp_appL _ _ rfl wz.heap.size _ 0 [] rfl hoE22 Ar R.length cr xs rfl hxl HAr.out (hxc2 _ hB_wx22) hx1 (by omega) hB_wx22.size ?_
            intro v3_23 wx23 ho3_23 hB3_23 hG3_23
            (try simp only [Act.put, zn1, zn2, zn3, zn4, zn5, zn6])
            have hB_wx23 := hB_wx22.trans hB3_23
            refine hK.out _ _ (keptB hB_wx23) (fun _ => ?_)
            (try simp only [Act.put, zn1, zn2, zn3, zn4, zn5, zn6])
            clear hK K
            rw [Nat.zero_add, List.nil_append] at ho3_23
            have hb5_23 := hb5_22.grown hG3_23 (ne_own (by omega))
            refine wpAnyH_ready (rs := [6]) (by kernel_rfl) (by simp) (AllReadyH.cons rfl (fun K hK => ?_) AllReadyH.nil)
            (try simp only [Act.put, zn1, zn2, zn3, zn4, zn5, zn6])
            refine Eq.mpr (if_pos (by rfl)) ?_
            refine wp_appL _ _ rfl wz.heap.size _ R.length xs rfl ho3_23 (some ⟨wd0.heap.size, 0, none⟩) 1 1 [.slice An1 Lk cn1, .slice An2 16 cn2, .slice An3 16 cn3] rfl hnw (fun h => by cases h) (hnc _ _ hb5_23) hn1 (by omega) hB_wx23.size ?_
            intro v6 W6 ho6 hB6 _
            (try simp only [Act.put, zn1, zn2, zn3, zn4, zn5, zn6])
            have hB_W6 := hB_wx23.trans hB6
            refine hK.out _ _ (keptB hB_W6) (fun _ => ?_)
            (try simp only [Act.put, zn1, zn2, zn3, zn4, zn5, zn6])
            clear hK K
            refine wpAnyH_take (i := 7) (v := .pointer (some ⟨w.heap.size, 0, none⟩)) rfl (by kernel_rfl) (by kernel_rfl) (by kernel_rfl) (fun _ _ _ h => h) (Or.inl ⟨rfl, fun W _ => by go_simp⟩) (keptB hB_W6) ?_
            (try simp only [Act.put, zn1, zn2, zn3, zn4, zn5, zn6])
            refine wpAnyH_ready (rs := [8]) (by kernel_rfl) (by simp) (AllReadyH.cons rfl (fun K hK => ?_) AllReadyH.nil)
            (try simp only [Act.put, zn1, zn2, zn3, zn4, zn5, zn6])
            refine Eq.mpr (if_pos (by rfl)) ?_
            have hv6 : ∃ A6 c6, v6 = .slice A6 (R.length + 1) c6 := by
             rcases ho6.2 with ⟨h1, h2⟩ | ⟨g, c6, cur, h1, -⟩
             ·omega
             ·exact ⟨_, _, h1⟩
            have h1v : v6.oneCell' = true := by obtain ⟨A6, c6, rfl⟩ := hv6; rfl
            have h2v : v6.cells = #[v6] := by obtain ⟨A6, c6, rfl⟩ := hv6; rfl
            refine wp_skipw (exec_stV 34 _ _ rfl ⟨w.heap.size, 0, none⟩ rfl v6 rfl h1v h2v iSRow _ (c4 _ hB_W6) ((H4z.out.below hB_W6 H4z.out.lt).free 0)) ?_
            (try simp only [Act.put, zn1, zn2, zn3, zn4, zn5, zn6])
            have hp := past24 hz1 H4z.out H8z.out hB_W6 ho6
            refine hK.out _ _ ⟨hp.kept, hp.size⟩ (fun _ => ?_)
            (try simp only [Act.put, zn1, zn2, zn3, zn4, zn5, zn6])
            clear hK K
            refine wpAnyH_done (by kernel_rfl) ?_ _
            generalize W6.setCell ⟨w.heap.size, 0, none⟩ v6 = W7 at hp ⊢
            generalize Value.slice (some ⟨wx21.heap.size, 0, none⟩) 0 0 = va
            generalize Value.slice (some ⟨wd0.heap.size, 0, none⟩) 1 1 = vc
            exact kk W7 va v3_23 vc v6 hp
          ·(try simp only [Act.put, zn1, zn2, zn3, zn4, zn5, zn6])
           refine Eq.mpr (if_pos (by rfl)) ?_
           refine wp_valw _ (exec_bs1 34 _ rfl (.agg (row 3 (rowC (.slice An1 Lk cn1) (.slice An2 16 cn2) (.slice An3 16 cn3)))) (.slice (some ⟨wd0.heap.size, 0, none⟩) 1 1) rfl (bsR1 _ _ _ _)) ?_
           (try simp only [Act.put, zn1, zn2, zn3, zn4, zn5, zn6])
           refine hK.out _ _ (keptB (hB_wd0.alloc hB_wd0.size _)) (fun _ => ?_)
           (try simp only [Act.put, zn1, zn2, zn3, zn4, zn5, zn6])
           clear hK K
           have hb5_25 := Blk.fresh wd0 99 (row 3 (rowC (.slice An1 Lk cn1) (.slice An2 16 cn2) (.slice An3 16 cn3)))
           have hB_wx25 := hB_wd0.alloc hB_wd0.size (.cells (row 3 (rowC (.slice An1 Lk cn1) (.slice An2 16 cn2) (.slice An3 16 cn3))) 99)
           generalize hw25 : wd0.alloc (.cells (row 3 (rowC (.slice An1 Lk cn1) (.slice An2 16 cn2) (.slice An3 16 cn3))) 99) = wx25 at hb5_25 hB_wx25 ⊢
           clear hw25
           refine wpAnyH_ready (rs := [0, 2]) (by kernel_rfl) (by simp) ?_
           refine AllReadyH.cons rfl (fun K hK => ?_) (AllReadyH.cons rfl (fun K hK => ?_) AllReadyH.nil)
           ·(try simp only [Act.put, zn1, zn2, zn3, zn4, zn5, zn6])
            refine Eq.mpr (if_pos (by rfl)) ?_
            refine wp_valw _ (exec_bs0 34 rfl (.slice (some ⟨wx25.heap.size, 0, none⟩) 0 0) (bsR0 _)) ?_
            (try simp only [Act.put, zn1, zn2, zn3, zn4, zn5, zn6])
            refine hK.out _ _ (keptB (hB_wx25.alloc hB_wx25.size _)) (fun _ => ?_)
            (try simp only [Act.put, zn1, zn2, zn3, zn4, zn5, zn6])
            clear hK K
            have hoE26 := OwnL.empty wx25 wz.heap.size hB_wx25.size
            have hB_wx26 := hB_wx25.alloc hB_wx25.size (.cells #[] 99)
            have hsE26 : wx25.heap.size < (wx25.alloc (.cells #[] 99)).heap.size := by simp
            have hb5_26 := hb5_25.alloc (.cells #[] 99)
            have hb5l_26 := hb5_25.lt
            generalize hw26 : wx25.alloc (.cells #[] 99) = wx26 at hoE26 hB_wx26 hsE26 hb5_26 ⊢
            clear hw26
            refine wpAnyH_ready (rs := [2]) (by kernel_rfl) (by simp) (AllReadyH.cons rfl (fun K hK => ?_) AllReadyH.nil)
            (try simp only [Act.put, zn1, zn2, zn3, zn4, zn5, zn6])
            refine Eq.mpr (if_pos (by rfl)) ?_
            refine wp_valw _ (exec_ldsl 34 _ rfl ⟨w.heap.size, 0, none⟩ rfl 99 Tryz.underlying34 (.slice Ar R.length cr) (c4 _ hB_wx26)) ?_
            (try simp only [Act.put, zn1, zn2, zn3, zn4, zn5, zn6])
            refine hK.out _ _ (keptB hB_wx26) (fun _ => ?_)
            (try simp only [Act.put, zn1, zn2, zn3, zn4, zn5, zn6])
            clear hK K
            refine wpAnyH_ready (rs := [3]) (by kernel_rfl) (by simp) (AllReadyH.cons rfl (fun K hK => ?_) AllReadyH.nil)
            (try simp only [Act.put, zn1, zn2, zn3, zn4, zn5, zn6])
            refine Eq.mpr (if_pos (by rfl)) ?_
            refine wp_appL _ _ rfl wz.heap.size _ 0 [] rfl hoE26 Ar R.length cr xs rfl hxl HAr.out (hxc2 _ hB_wx26) hx1 (by omega) hB_wx26.size ?_
            intro v3_28 wx28 ho3_28 hB3_28 hG3_28
            (try simp only [Act.put, zn1, zn2, zn3, zn4, zn5, zn6])
            have hB_wx28 := hB_wx26.trans hB3_28
            refine hK.out _ _ (keptB hB_wx28) (fun _ => ?_)
            (try simp only [Act.put, zn1, zn2, zn3, zn4, zn5, zn6])
            clear hK K
            rw [Nat.zero_add, List.nil_append] at ho3_28
            have hb5_28 := hb5_26.grown hG3_28 (ne_own (by omega))
            refine wpAnyH_ready (rs := [6]) (by kernel_rfl) (by simp) (AllReadyH.cons rfl (fun K hK => ?_) AllReadyH.nil)
            (try simp only [Act.put, zn1, zn2, zn3, zn4, zn5, zn6])
            refine Eq.mpr (if_pos (by rfl)) ?_
            refine wp_appL _ _ rfl wz.heap.size _ R.length xs rfl ho3_28 (some ⟨wd0.heap.size, 0, none⟩) 1 1 [.slice An1 Lk cn1, .slice An2 16 cn2, .slice An3 16 cn3] rfl hnw (fun h => by cases h) (hnc _ _ hb5_28) hn1 (by omega) hB_wx28.size ?_
            intro v6 W6 ho6 hB6 _
            (try simp only [Act.put, zn1, zn2, zn3, zn4, zn5, zn6])
            have hB_W6 := hB_wx28.trans hB6
            refine hK.out _ _ (keptB hB_W6) (fun _ => ?_)
            (try simp only [Act.put, zn1, zn2, zn3, zn4, zn5, zn6])
            clear hK K
            refine wpAnyH_take (i := 7) (v := .pointer (some ⟨w.heap.size, 0, none⟩)) rfl (by kernel_rfl) (by kernel_rfl) (by kernel_rfl) (fun _ _ _ h => h) (Or.inl ⟨rfl, fun W _ => by go_simp⟩) (keptB hB_W6) ?_
            (try simp only [Act.put, zn1, zn2, zn3, zn4, zn5, zn6])
            refine wpAnyH_ready (rs := [8]) (by kernel_rfl) (by simp) (AllReadyH.cons rfl (fun K hK => ?_) AllReadyH.nil)
            (try simp only [Act.put, zn1, zn2, zn3, zn4, zn5, zn6])
            refine Eq.mpr (if_pos (by rfl)) ?_
            have hv6 : ∃ A6 c6, v6 = .slice A6 (R.length + 1) c6 := by
             rcases ho6.2 with ⟨h1, h2⟩ | ⟨g, c6, cur, h1, -⟩
             ·omega
             ·exact ⟨_, _, h1⟩
            have h1v : v6.oneCell' = true := by obtain ⟨A6, c6, rfl⟩ := hv6; rfl
            have h2v : v6.cells = #[v6] := by obtain ⟨A6, c6, rfl⟩ := hv6; rfl
            refine wp_skipw (exec_stV 34 _ _ rfl ⟨w.heap.size, 0, none⟩ rfl v6 rfl h1v h2v iSRow _ (c4 _ hB_W6) ((H4z.out.below hB_W6 H4z.out.lt).free 0)) ?_
            (try simp only [Act.put, zn1, zn2, zn3, zn4, zn5, zn6])
            have hp := past24 hz1 H4z.out H8z.out hB_W6 ho6
            refine hK.out _ _ ⟨hp.kept, hp.size⟩ (fun _ => ?_)
            (try simp only [Act.put, zn1, zn2, zn3, zn4, zn5, zn6])
            clear hK K
            refine wpAnyH_done (by kernel_rfl) ?_ _
            generalize W6.setCell ⟨w.heap.size, 0, none⟩ v6 = W7 at hp ⊢
            generalize Value.slice (some ⟨wx25.heap.size, 0, none⟩) 0 0 = va
            generalize Value.slice (some ⟨wd0.heap.size, 0, none⟩) 1 1 = vc
            exact kk W7 va v3_28 vc v6 hp
           ·(try simp only [Act.put, zn1, zn2, zn3, zn4, zn5, zn6])
            refine Eq.mpr (if_pos (by rfl)) ?_
            refine wp_valw _ (exec_ldsl 34 _ rfl ⟨w.heap.size, 0, none⟩ rfl 99 Tryz.underlying34 (.slice Ar R.length cr) (c4 _ hB_wx25)) ?_
            (try simp only [Act.put, zn1, zn2, zn3, zn4, zn5, zn6])
            refine hK.out _ _ (keptB hB_wx25) (fun _ => ?_)
            (try simp only [Act.put, zn1, zn2, zn3, zn4, zn5, zn6])
            clear hK K
            refine wpAnyH_ready (rs := [0]) (by kernel_rfl) (by simp) (AllReadyH.cons rfl (fun K hK => ?_) AllReadyH.nil)
            (try simp only [Act.put, zn1, zn2, zn3, zn4, zn5, zn6])
            refine Eq.mpr (if_pos (by rfl)) ?_
            refine wp_valw _ (exec_bs0 34 rfl (.slice (some ⟨wx25.heap.size, 0, none⟩) 0 0) (bsR0 _)) ?_
            (try simp only [Act.put, zn1, zn2, zn3, zn4, zn5, zn6])
            refine hK.out _ _ (keptB (hB_wx25.alloc hB_wx25.size _)) (fun _ => ?_)
            (try simp only [Act.put, zn1, zn2, zn3, zn4, zn5, zn6])
            clear hK K
            have hoE31 := OwnL.empty wx25 wz.heap.size hB_wx25.size
            have hB_wx31 := hB_wx25.alloc hB_wx25.size (.cells #[] 99)
            have hsE31 : wx25.heap.size < (wx25.alloc (.cells #[] 99)).heap.size := by simp
            have hb5_31 := hb5_25.alloc (.cells #[] 99)
            have hb5l_31 := hb5_25.lt
            generalize hw31 : wx25.alloc (.cells #[] 99) = wx31 at hoE31 hB_wx31 hsE31 hb5_31 ⊢
            clear hw31
            refine wpAnyH_ready (rs := [3]) (by kernel_rfl) (by simp) (AllReadyH.cons rfl (fun K hK => ?_) AllReadyH.nil)
            (try simp only [Act.put, zn1, zn2, zn3, zn4, zn5, zn6])
            refine Eq.mpr (if_pos (by rfl)) ?_
            refine wp_appL _ _ rfl wz.heap.size _ 0 [] rfl hoE31 Ar R.length cr xs rfl hxl HAr.out (hxc2 _ hB_wx31) hx1 (by omega) hB_wx31.size ?_
            intro v3_32 wx32 ho3_32 hB3_32 hG3_32
            (try simp only [Act.put, zn1, zn2, zn3, zn4, zn5, zn6])
            have hB_wx32 := hB_wx31.trans hB3_32
            refine hK.out _ _ (keptB hB_wx32) (fun _ => ?_)
            (try simp only [Act.put, zn1, zn2, zn3, zn4, zn5, zn6])
            clear hK K
            rw [Nat.zero_add, List.nil_append] at ho3_32
            have hb5_32 := hb5_31.grown hG3_32 (ne_own (by omega))
            refine wpAnyH_ready (rs := [6]) (by kernel_rfl) (by simp) (AllReadyH.cons rfl (fun K hK => ?_) AllReadyH.nil)
            (try simp only [Act.put, zn1, zn2, zn3, zn4, zn5, zn6])
            refine Eq.mpr (if_pos (by rfl)) ?_
            refine wp_appL _ _ rfl wz.heap.size _ R.length xs rfl ho3_32 (some ⟨wd0.heap.size, 0, none⟩) 1 1 [.slice An1 Lk cn1, .slice An2 16 cn2, .slice An3 16 cn3] rfl hnw (fun h => by cases h) (hnc _ _ hb5_32) hn1 (by omega) hB_wx32.size ?_
            intro v6 W6 ho6 hB6 _
            (try simp only [Act.put, zn1, zn2, zn3, zn4, zn5, zn6])
            have hB_W6 := hB_wx32.trans hB6
            refine hK.out _ _ (keptB hB_W6) (fun _ => ?_)
            (try simp only [Act.put, zn1, zn2, zn3, zn4, zn5, zn6])
            clear hK K
            refine wpAnyH_take (i := 7) (v := .pointer (some ⟨w.heap.size, 0, none⟩)) rfl (by kernel_rfl) (by kernel_rfl) (by kernel_rfl) (fun _ _ _ h => h) (Or.inl ⟨rfl, fun W _ => by go_simp⟩) (keptB hB_W6) ?_
            (try simp only [Act.put, zn1, zn2, zn3, zn4, zn5, zn6])
            refine wpAnyH_ready (rs := [8]) (by kernel_rfl) (by simp) (AllReadyH.cons rfl (fun K hK => ?_) AllReadyH.nil)
            (try simp only [Act.put, zn1, zn2, zn3, zn4, zn5, zn6])
            refine Eq.mpr (if_pos (by rfl)) ?_
            have hv6 : ∃ A6 c6, v6 = .slice A6 (R.length + 1) c6 := by
             rcases ho6.2 with ⟨h1, h2⟩ | ⟨g, c6, cur, h1, -⟩
             ·omega
             ·exact ⟨_, _, h1⟩
            have h1v : v6.oneCell' = true := by obtain ⟨A6, c6, rfl⟩ := hv6; rfl
            have h2v : v6.cells = #[v6] := by obtain ⟨A6, c6, rfl⟩ := hv6; rfl
            refine wp_skipw (exec_stV 34 _ _ rfl ⟨w.heap.size, 0, none⟩ rfl v6 rfl h1v h2v iSRow _ (c4 _ hB_W6) ((H4z.out.below hB_W6 H4z.out.lt).free 0)) ?_
            (try simp only [Act.put, zn1, zn2, zn3, zn4, zn5, zn6])
            have hp := past24 hz1 H4z.out H8z.out hB_W6 ho6
            refine hK.out _ _ ⟨hp.kept, hp.size⟩ (fun _ => ?_)
            (try simp only [Act.put, zn1, zn2, zn3, zn4, zn5, zn6])
            clear hK K
            refine wpAnyH_done (by kernel_rfl) ?_ _
            generalize W6.setCell ⟨w.heap.size, 0, none⟩ v6 = W7 at hp ⊢
            generalize Value.slice (some ⟨wx25.heap.size, 0, none⟩) 0 0 = va
            generalize Value.slice (some ⟨wd0.heap.size, 0, none⟩) 1 1 = vc
            exact kk W7 va v3_32 vc v6 hp
         intro w5 va vb vc v6 hp
         try dsimp only
         obtain ⟨A6, c6, rfl⟩ : ∃ A6 c6, v6 = .slice A6 (R.length + 1) c6 := by
          rcases hp.own.2 with ⟨_, h2⟩ | ⟨g, c6, cur, h1, -⟩
          ·omega
          ·exact ⟨_, _, h1⟩
         have HP := hid hp
         have HN5 := hid (HNz.out.trans hp.bel)
         have Hb5 := hid hp.book
         have Ho5 := hid hp.out
         have hs5 := hp.size
         have HTn : Hid (Reads w B0 (cutA A' 16 c') (n - j - 16) (fun i => F (j + 16 + i))) := hid ((HTe.out.cutA (k := 16) (z := n - j - 16) (cap := c') (by omega) hce).ext (fun i _ => by show F (j + (16 + i)) = F (j + 16 + i); congr 1; omega))
         clear hp hnc hn1 hnw hxc2 c4 c17
         obtain ⟨rl, hrl2⟩ : ∃ rl, rl = R.length + 1 := ⟨_, rfl⟩
         rw [← hrl2] at Hb5 ⊢
         have Hrl := hid hrl2
         clear hrl2
         go_wp2_with fail
         have d0 : ∀ W, Below (w.heap.size + 1) w5 W → ∀ q, q < 2 → W.cell? ((⟨w.heap.size, 0, none⟩ : Addr).add q) = some (bookC (.slice A6 rl c6) (.slice (cutA A' 16 c') (n - j - 16) (c' - 16)) q) := fun W hW q hq => by
          rw [add_zero_off]
          exact ((Hb5.out.below hW (Nat.lt_succ_self _)).cell q).trans (row_get 2 _ q hq)
         refine wp_region_held_drew (S := fun W => Below (w.heap.size + 1) w5 W) (by kernel_rfl) (Below.refl _ _).drew (fun hS0 => ?_)
         refine wpAnyH_take (i := 0) (v := .agg (row 2 (bookC (.slice A6 rl c6) (.slice (cutA A' 16 c') (n - j - 16) (c' - 16))))) rfl (by kernel_rfl) (by kernel_rfl) (by kernel_rfl) (fun _ _ _ h => h) (Or.inl ⟨rfl, fun W hW => exec_loadSt 36 _ rfl ⟨w.heap.size, 0, none⟩ rfl 2 _ (d0 W hW) _ Tryz.underlying36 iRB⟩) hS0 ?_
         (try simp only [Act.put, zn1, zn2, zn3, zn4, zn5, zn6])
         refine wpAnyH_take (i := 2) (v := .slice A' 16 c') rfl (by kernel_rfl) (by kernel_rfl) (by kernel_rfl) (fun _ _ _ h => h) (Or.inl ⟨rfl, fun _ _ => exec_move _ rfl _ rfl⟩) hS0 ?_
         (try simp only [Act.put, zn1, zn2, zn3, zn4, zn5, zn6])
         refine wpAnyH_ready (rs := [1]) (by kernel_rfl) (by simp) (AllReadyH.cons rfl (fun K hK => ?_) AllReadyH.nil)
         (try simp only [Act.put, zn1, zn2, zn3, zn4, zn5, zn6])
         refine Eq.mpr (if_pos (by rfl)) ?_
         refine wp_valw _ (exec_bs0 22 rfl (.slice (some ⟨w5.drew.heap.size, 0, none⟩) 0 0) (bsB0 _)) ?_
         (try simp only [Act.put, zn1, zn2, zn3, zn4, zn5, zn6])
         have hs50 : w.heap.size + 1 ≤ w5.drew.heap.size := by show _ ≤ w5.heap.size; omega
         refine hK.out _ _ (hS0.alloc hs50 _) (fun hS1 => ?_)
         (try simp only [Act.put, zn1, zn2, zn3, zn4, zn5, zn6])
         clear hK K
         have hoE := Mem.Own.empty w5.drew w5.heap.size 5 (fun _ => 0) (Nat.le_refl _)
         have hBE : Below w5.heap.size w5 (w5.drew.alloc (.cells #[] 5)) := (Below.refl _ _).drew.alloc (Nat.le_refl _) _
         have hRY := ((HY.out.below HN5.out).more HN5.out.size).below hBE
         have hbE : w5.heap.size ≤ (w5.drew.alloc (.cells #[] 5)).heap.size := hBE.size
         generalize hwE : w5.drew.alloc (.cells #[] 5) = wE at hoE hBE hRY hbE hS1 ⊢
         clear hwE
         refine wpAnyH_ready (rs := [3]) (by kernel_rfl) (by simp) (AllReadyH.cons rfl (fun K hK => ?_) AllReadyH.nil)
         (try simp only [Act.put, zn1, zn2, zn3, zn4, zn5, zn6])
         refine Eq.mpr (if_pos (by rfl)) ?_
         refine wp_app_gen _ _ 22 rfl w5.heap.size 5 (.int .u8 0) Tryz.underlying22 info_u8 rfl _ 0 _ rfl hoE A' 16 c' _ _ hRY (fun h => by have := HY.out (by omega); obtain ⟨ad, h2, -⟩ := this; rw [h] at h2; cases h2) rfl (by omega) hbE ?_
         intro v8 w8 ho8 hB8
         (try simp only [Act.put, zn1, zn2, zn3, zn4, zn5, zn6])
         have hS2 := hS1.trans (hB8.mono (by omega))
         refine hK.out _ _ hS2 (fun _ => ?_)
         (try simp only [Act.put, zn1, zn2, zn3, zn4, zn5, zn6])
         clear hK K
         try rw [Nat.zero_add] at ho8
         obtain ⟨A8, c8, rfl, hc8, -, -⟩ := ho8.slice'
         have hR8 := ho8.reads.ext (g := fun i => F (j + i)) (fun i hi => by unfold cat; simp)
         have hB58 := hBE.trans hB8
         have d8 := Ho5.out.below hB58 Ho5.out.lt
         refine wpAnyH_ready (rs := [4]) (by kernel_rfl) (by simp) (ready_one rfl rfl (fun K hK => ?_))
         (try simp only [Act.put, zn1, zn2, zn3, zn4, zn5, zn6])
         with_reducible refine wp_store_blk 36 _ _ rfl (w.heap.size + 1) (row 2 (bookC (.slice A6 rl c6) (.slice (cutA A' 16 c') (n - j - 16) (c' - 16)))) rfl rfl 36 _ d8 (iRB' _) (by simp [row_size]) (one2 _ _ _ _ _ _) ?_
         (try simp only [Act.put, zn1, zn2, zn3, zn4, zn5, zn6])
         refine hK.out _ _ (below_setRow' hS2 (Nat.le_refl _) _) (fun hSz => ?_)
         (try simp only [Act.put, zn1, zn2, zn3, zn4, zn5, zn6])
         refine wpAnyH_take (i := 5) (v := .slice A8 16 c8) rfl (by kernel_rfl) (by kernel_rfl) (by kernel_rfl) (fun _ _ _ h => h) (Or.inl ⟨rfl, fun _ _ => exec_assign _ rfl _ rfl⟩) hSz ?_
         (try simp only [Act.put, zn1, zn2, zn3, zn4, zn5, zn6])
         refine wpAnyH_take (i := 6) (v := .bool true) rfl (by kernel_rfl) (by kernel_rfl) (by kernel_rfl) (fun _ _ _ h => h) (Or.inl ⟨rfl, fun _ _ => exec_assign _ rfl _ rfl⟩) hSz ?_
         (try simp only [Act.put, zn1, zn2, zn3, zn4, zn5, zn6])
         refine wpAnyH_done (by kernel_rfl) ?_ _
         clear hK
         have hB9 := below_setRow' ((HN5.out.trans (hB58.mono (by have := HN5.out.size; omega)))) (Nat.le_succ w.heap.size) (row 2 (bookC (.slice A6 rl c6) (.slice (cutA A' 16 c') (n - j - 16) (c' - 16))))
         have hk9 : ∀ g, g < wz.heap.size → w.heap.size + 1 < g → (w8.setRow (w.heap.size + 1) (row 2 (bookC (.slice A6 rl c6) (.slice (cutA A' 16 c') (n - j - 16) (c' - 16))))).heap[g]? = wz.heap[g]? := fun g hg hlo => by
          rw [setRow_other w8 (w.heap.size + 1) g _ (by omega), hB58.block g (by omega)]
          exact HP.out.kept g hg (by omega)
         have hs9 : wz.heap.size ≤ (w8.setRow (w.heap.size + 1) (row 2 (bookC (.slice A6 rl c6) (.slice (cutA A' 16 c') (n - j - 16) (c' - 16))))).heap.size := by
          have := hB58.size
          simp
          omega
         have hbz : Below w.heap.size wz (w8.setRow (w.heap.size + 1) (row 2 (bookC (.slice A6 rl c6) (.slice (cutA A' 16 c') (n - j - 16) (c' - 16))))) := below_setRow' (HP.out.bel.trans (hB58.mono (by have := HN5.out.size; omega))) (Nat.le_succ _) _
         have ho9 : OwnL (w8.setRow (w.heap.size + 1) (row 2 (bookC (.slice A6 rl c6) (.slice (cutA A' 16 c') (n - j - 16) (c' - 16))))) wz.heap.size (.slice A6 (R.length + 1) c6) (R.length + 1) _ := OwnL.kept HP.out.own (fun g hg hl => by rw [setRow_other w8 (w.heap.size + 1) g _ (by omega)]; exact hB58.block g hl)
         have h89 := d8.setRow (row 2 (bookC (.slice A6 rl c6) (.slice (cutA A' 16 c') (n - j - 16) (c' - 16))))
         have hR9 : Reads (w8.setRow (w.heap.size + 1) (row 2 (bookC (.slice A6 rl c6) (.slice (cutA A' 16 c') (n - j - 16) (c' - 16))))) (w8.setRow (w.heap.size + 1) (row 2 (bookC (.slice A6 rl c6) (.slice (cutA A' 16 c') (n - j - 16) (c' - 16))))).heap.size A8 16 (fun i => F (j + i)) := reads_kept (g0 := w.heap.size + 1) hR8 (fun q h => by have := own_lo ho8 q h; omega) (fun g _ hlo => setRow_other w8 (w.heap.size + 1) g _ (by omega)) (by simp)
         generalize w8.setRow (w.heap.size + 1) (row 2 (bookC (.slice A6 rl c6) (.slice (cutA A' 16 c') (n - j - 16) (c' - 16)))) = w9 at *
         have hall : ∀ W, Agree B0 w w9 W → RowsAt W W.heap.size A6 Lk (R ++ [(mk false (strF Lk key) x fun i => F (j + i))]) := fun W ha => by
          have hkW : ∀ g, g < wz.heap.size → w.heap.size + 1 < g → W.heap[g]? = wz.heap[g]? := fun g hg hlo => (ha.block g (by omega) (.inr (by omega))).trans (hk9 g hg hlo)
          have hsW : wz.heap.size ≤ W.heap.size := Nat.le_trans hs9 ha.size
          have hbW : Below B0 wz W := ⟨ha.os.trans hbz.os, ha.tape.trans hbz.tape, ha.output.trans hbz.output, hsW, fun g hg => (ha.block g (by have := HNz.out.size; omega) (.inl hg)).trans (hbz.block g (by omega))⟩
          have hnr : RowC W W.heap.size Lk (mk false (strF Lk key) x fun i => F (j + i)) (rowC (.slice An1 Lk cn1) (.slice An2 16 cn2) (.slice An3 16 cn3)) := ⟨⟨An1, cn1, key, rfl, reads_kept (g0 := w.heap.size + 1) HOkz.out (fun q h => by have := hlo1 q h; have := hltz.out; omega) hkW hsW, Hkb.out, rfl⟩, ⟨_, _, rfl, hcn2, reads_kept (g0 := w.heap.size + 1) HOxz.out (fun q h => by have := hlo2 q h; have := hltz.out; omega) hkW hsW⟩, ⟨_, _, rfl, hcn3, reads_kept (g0 := w.heap.size + 1) HOyz.out (fun q h => by have := hlo3 q h; have := hltz.out; omega) hkW hsW⟩⟩
          have hrows := rows_new hxl (fun q hq => ((Hxr.out q hq).below hbW).more (by have := HNz.out.size; omega)) hnr
          have hoW : OwnL W wz.heap.size (.slice A6 (R.length + 1) c6) (R.length + 1) _ := OwnL.kept ho9 (fun g hg hl => ha.block g hl (.inr (by have := HNz.out.size; omega)))
          obtain ⟨A9, c9, hv9, hRows⟩ := OwnL.rows (R := R ++ [(mk false (strF Lk key) x fun i => F (j + i))]) hoW (by simp) hrows (Nat.le_refl _)
          injection hv9 with hA9 hL9 hC9
          subst hA9
          exact hRows
         have hL9 : R.length + 1 = (R ++ [(mk false (strF Lk key) x fun i => F (j + i))]).length := by simp
         have hA6 : A6 = none → (R ++ [(mk false (strF Lk key) x fun i => F (j + i))]).length = 0 ∧ c6 = 0 := fun h => by obtain ⟨ad, h2, -⟩ := hall w9 (Agree.refl _ _ _) R.length (by simp); rw [h] at h2; cases h2
         have hR9W : ∀ W, Agree B0 w w9 W → Reads W W.heap.size A8 16 (fun i => F (j + i)) := fun W ha => reads_kept (g0 := w.heap.size) hR9 (fun q h => by have := own_lo ho8 q h; have := HN5.out.size; omega) (fun g hg hlo => ha.block g hg (.inr (by omega))) ha.size
         go_wp2_with fail
         refine ret_row3 Tryz.results35 rfl (w.heap.size + 1) rfl _ rfl _ rfl 36 2 _ h89 _ Tryz.underlying36 iRB ⟨hB9, A6, c6, cutA A' 16 c', c' - 16, _, true, ?_, (fun W ha => ⟨hall W ha, ?_⟩), by omega, hA6, .inl ⟨_, A8, c8, rfl, rfl, rfl, hR9W⟩⟩
         ·rw [row2, Hrl.out, hL9, Nat.sub_sub]
          rfl
         ·rw [← Nat.sub_sub]
          exact ha.reads hB0 hB9 HTn.out
        ·have HB4z := (Below.refl wn3.heap.size wn3).alloc (Nat.le_refl _) (.cells (row 3 (rowC (.slice An1 Lk cn1) (.slice An3 16 cn3) (.slice An2 16 cn2))) 99)
         have hq0 : (wn3.alloc (.cells (row 3 (rowC (.slice An1 Lk cn1) (.slice An2 16 cn2) (.slice An3 16 cn3))) 99)).cell? ⟨wn3.heap.size, 0, none⟩ = some (.slice An1 Lk cn1) := (Blk.fresh wn3 99 (row 3 (rowC (.slice An1 Lk cn1) (.slice An2 16 cn2) (.slice An3 16 cn3)))).cell 0
         have hq1 : (wn3.alloc (.cells (row 3 (rowC (.slice An1 Lk cn1) (.slice An2 16 cn2) (.slice An3 16 cn3))) 99)).cell? ⟨wn3.heap.size, 1, none⟩ = some (.slice An2 16 cn2) := (Blk.fresh wn3 99 (row 3 (rowC (.slice An1 Lk cn1) (.slice An2 16 cn2) (.slice An3 16 cn3)))).cell 1
         have hq2 : (wn3.alloc (.cells (row 3 (rowC (.slice An1 Lk cn1) (.slice An2 16 cn2) (.slice An3 16 cn3))) 99)).cell? ⟨wn3.heap.size, 2, none⟩ = some (.slice An3 16 cn3) := (Blk.fresh wn3 99 (row 3 (rowC (.slice An1 Lk cn1) (.slice An2 16 cn2) (.slice An3 16 cn3)))).cell 2
         have hr4 : #[Value.slice An1 Lk cn1, .slice An3 16 cn3, .slice An2 16 cn2] = row 3 (rowC (.slice An1 Lk cn1) (.slice An3 16 cn3) (.slice An2 16 cn2)) := rowC_eq _ _ _
         go_wp2_with (first
          | (with_reducible refine wpl_alloc rfl 99 rfl _ zRow ?_)
          | (with_reducible refine wpl_store_newS rfl 99 _ _ rfl wn3 _ 3 _ (rowC_one _ _ _ rfl rfl rfl) rfl rfl 99 iRow (row_size _ _) ?_))
         clear hr3 hr4 hq0 hq1 hq2
         have HZr := hid (Blk.fresh wn3 99 (row 3 (rowC (.slice An1 Lk cn1) (.slice An3 16 cn3) (.slice An2 16 cn2))))
         have H4z := hid (H43.out.below HB4z H43.out.lt)
         have H8z := hid (H83.out.below HB4z H83.out.lt)
         have HNz := hid (HN3.out.trans (HB4z.mono HN3.out.size))
         have HOkz := hid ((HO1xx.out.below HB4z).more HB4z.size)
         have HOxz := hid ((HO2x.out.below HB4z).more HB4z.size)
         have HOyz := hid ((HO3.out.below HB4z).more HB4z.size)
         have hszz : Hid (wn3.heap.size < (wn3.alloc (.cells (row 3 (rowC (.slice An1 Lk cn1) (.slice An3 16 cn3) (.slice An2 16 cn2))) 99)).heap.size) := hid (by simp)
         have hltz : Hid (w.heap.size + 1 < wn0.heap.size) := hid hlt0
         have hgr0 : Hid (wn0.heap.size ≤ wn3.heap.size) := hid (by omega)
         clear HB4z HO1xx HO2x HO3 H43 H83 HN3
         generalize wn3.alloc (.cells (row 3 (rowC (.slice An1 Lk cn1) (.slice An3 16 cn3) (.slice An2 16 cn2))) 99) = wz at *
         generalize wn3.heap.size = gr at *
         have hz1 : w.heap.size + 1 < wz.heap.size := by have := hszz.out; have := hltz.out; omega
         obtain ⟨xs, hxl, hx1, hxc, hxr⟩ := (HR0.out.below (HNz.out.mono hB0)).cells
         have Hxr := hid hxr
         clear hxr
         have c4 : ∀ W, Below wz.heap.size wz W → W.cell? ⟨w.heap.size, 0, none⟩ = some (.slice Ar R.length cr) := fun W hW => (H4z.out.below hW H4z.out.lt).cell 0
         have hgrw : gr ≠ w.heap.size := by have := hltz.out; have := hgr0.out; omega
         have hxc2 : ∀ W, Below wz.heap.size wz W → ∀ q u, xs[q]? = some u → ∃ ad, Ar = some ad ∧ W.cell? (ad.add q) = some u := fun W hW q u hu => by
          obtain ⟨ad, h1, h2⟩ := hxc q u hu
          exact ⟨ad, h1, (hW.cell (p := ad.add q) (block_lt_of_cell h2)).trans h2⟩
         have hrl : R.length ≤ 1000 := hlen
         clear hxc
         have hnw : ([(.slice An1 Lk cn1 : Value), .slice An3 16 cn3, .slice An2 16 cn2] : List Value).length = 1 * 3 := rfl
         have hn1 : ∀ u ∈ ([(.slice An1 Lk cn1 : Value), .slice An3 16 cn3, .slice An2 16 cn2] : List Value), u.oneCell' = true := by simp [Value.oneCell']
         have hnc : ∀ (W : World) (g : Nat), Blk W g 99 (row 3 (rowC (.slice An1 Lk cn1) (.slice An3 16 cn3) (.slice An2 16 cn2))) → ∀ q u, ([(.slice An1 Lk cn1 : Value), .slice An3 16 cn3, .slice An2 16 cn2] : List Value)[q]? = some u → ∃ ad, some (⟨g, 0, none⟩ : Addr) = some ad ∧ W.cell? (ad.add q) = some u := fun W g hb q u hu => ⟨_, rfl, by
          rw [add_zero_off, hb.cell, ← rowC_eq]
          match q, hu with
          | 0, hu => simpa using hu
          | 1, hu => simpa using hu
          | 2, hu => simpa using hu
          | q + 3, hu => simp at hu⟩
         have c17 : ∀ W, KeptB w wz W → ∀ q, q < 3 → W.cell? ((⟨gr, 0, none⟩ : Addr).add q) = some ((rowC (.slice An1 Lk cn1) (.slice An3 16 cn3) (.slice An2 16 cn2)) q) := fun W hW q hq => by
          rw [add_zero_off]
          rw [World.cell?_of_block (w := wz) (w' := W) (a := ⟨gr, q, none⟩) (hW.1 gr HZr.out.lt hgrw)]
          exact (HZr.out.cell q).trans (row_get 3 _ q hq)
         apply suffN (F := Past24 w wz (.slice (cutA A' 16 c') (n - j - 16) (c' - 16)) (R.length + 1) (xs ++ [.slice An1 Lk cn1, .slice An3 16 cn3, .slice An2 16 cn2]))
         case h1 =>
          intro kk
          refine wp_region_held_drew (S := fun W => KeptB w wz W) (by kernel_rfl) (keptB (Below.refl _ _).drew) (fun hS0 => ?_)
          have hB0 : Below wz.heap.size wz wz.drew := (Below.refl _ _).drew
          refine wpAnyH_take (i := 1) (v := .pointer (some ⟨w.heap.size, 0, none⟩)) rfl (by kernel_rfl) (by kernel_rfl) (by kernel_rfl) (fun _ _ _ h => h) (Or.inl ⟨rfl, fun W _ => by go_simp⟩) hS0 ?_
          (try simp only [Act.put, zn1, zn2, zn3, zn4, zn5, zn6])
          refine wpAnyH_take (i := 4) (v := .agg (row 3 (rowC (.slice An1 Lk cn1) (.slice An3 16 cn3) (.slice An2 16 cn2)))) rfl (by kernel_rfl) (by kernel_rfl) (by kernel_rfl) (fun _ _ _ h => h) (Or.inl ⟨rfl, fun W hW => exec_loadSt 99 _ rfl ⟨gr, 0, none⟩ rfl 3 _ (c17 W hW) _ Tryz.underlying99 iRow⟩) hS0 ?_
          (try simp only [Act.put, zn1, zn2, zn3, zn4, zn5, zn6])
          have hd0 : wz.drew.heap.size = wz.heap.size := rfl
          generalize hwd : wz.drew = wd0 at hB0 hd0 hS0 ⊢
          clear hwd hS0
          have hB_wd0 := hB0
          refine wpAnyH_ready (rs := [0, 2, 5]) (by kernel_rfl) (by simp) ?_
          refine AllReadyH.cons rfl (fun K hK => ?_) (AllReadyH.cons rfl (fun K hK => ?_) (AllReadyH.cons rfl (fun K hK => ?_) AllReadyH.nil))
          ·(try simp only [Act.put, zn1, zn2, zn3, zn4, zn5, zn6])
           refine Eq.mpr (if_pos (by rfl)) ?_
           refine wp_valw _ (exec_bs0 34 rfl (.slice (some ⟨wd0.heap.size, 0, none⟩) 0 0) (bsR0 _)) ?_
           (try simp only [Act.put, zn1, zn2, zn3, zn4, zn5, zn6])
           refine hK.out _ _ (keptB (hB_wd0.alloc hB_wd0.size _)) (fun _ => ?_)
           (try simp only [Act.put, zn1, zn2, zn3, zn4, zn5, zn6])
           clear hK K
           have hoE1 := OwnL.empty wd0 wz.heap.size hB_wd0.size
           have hB_wx1 := hB_wd0.alloc hB_wd0.size (.cells #[] 99)
           have hsE1 : wd0.heap.size < (wd0.alloc (.cells #[] 99)).heap.size := by simp
           generalize hw1 : wd0.alloc (.cells #[] 99) = wx1 at hoE1 hB_wx1 hsE1 ⊢
           clear hw1
           refine wpAnyH_ready (rs := [2, 5]) (by kernel_rfl) (by simp) ?_
           refine AllReadyH.cons rfl (fun K hK => ?_) (AllReadyH.cons rfl (fun K hK => ?_) AllReadyH.nil)
           ·(try simp only [Act.put, zn1, zn2, zn3, zn4, zn5, zn6])
            refine Eq.mpr (if_pos (by rfl)) ?_
            refine wp_valw _ (exec_ldsl 34 _ rfl ⟨w.heap.size, 0, none⟩ rfl 99 Tryz.underlying34 (.slice Ar R.length cr) (c4 _ hB_wx1)) ?_
            (try simp only [Act.put, zn1, zn2, zn3, zn4, zn5, zn6])
            refine hK.out _ _ (keptB hB_wx1) (fun _ => ?_)
            (try simp only [Act.put, zn1, zn2, zn3, zn4, zn5, zn6])
            clear hK K
            refine wpAnyH_ready (rs := [3, 5]) (by kernel_rfl) (by simp) ?_
            refine AllReadyH.cons rfl (fun K hK => ?_) (AllReadyH.cons rfl (fun K hK => ?_) AllReadyH.nil)
            ·(try simp only [Act.put, zn1, zn2, zn3, zn4, zn5, zn6])
             refine Eq.mpr (if_pos (by rfl)) ?_
             refine wp_appL _ _ rfl wz.heap.size _ 0 [] rfl hoE1 Ar R.length cr xs rfl hxl HAr.out (hxc2 _ hB_wx1) hx1 (by omega) hB_wx1.size ?_
             intro v3_3 wx3 ho3_3 hB3_3 hG3_3
             (try simp only [Act.put, zn1, zn2, zn3, zn4, zn5, zn6])
             have hB_wx3 := hB_wx1.trans hB3_3
             refine hK.out _ _ (keptB hB_wx3) (fun _ => ?_)
             (try simp only [Act.put, zn1, zn2, zn3, zn4, zn5, zn6])
             clear hK K
             rw [Nat.zero_add, List.nil_append] at ho3_3
             refine wpAnyH_ready (rs := [5]) (by kernel_rfl) (by simp) (AllReadyH.cons rfl (fun K hK => ?_) AllReadyH.nil)
             (try simp only [Act.put, zn1, zn2, zn3, zn4, zn5, zn6])
             refine Eq.mpr (if_pos (by rfl)) ?_
             refine wp_valw _ (exec_bs1 34 _ rfl (.agg (row 3 (rowC (.slice An1 Lk cn1) (.slice An3 16 cn3) (.slice An2 16 cn2)))) (.slice (some ⟨wx3.heap.size, 0, none⟩) 1 1) rfl (bsR1 _ _ _ _)) ?_
             (try simp only [Act.put, zn1, zn2, zn3, zn4, zn5, zn6])
             refine hK.out _ _ (keptB (hB_wx3.alloc hB_wx3.size _)) (fun _ => ?_)
             (try simp only [Act.put, zn1, zn2, zn3, zn4, zn5, zn6])
             clear hK K
             have hb5_4 := Blk.fresh wx3 99 (row 3 (rowC (.slice An1 Lk cn1) (.slice An3 16 cn3) (.slice An2 16 cn2)))
             have hB_wx4 := hB_wx3.alloc hB_wx3.size (.cells (row 3 (rowC (.slice An1 Lk cn1) (.slice An3 16 cn3) (.slice An2 16 cn2))) 99)
             have own0_4 := OwnL.alloc hoE1 (.cells (row 3 (rowC (.slice An1 Lk cn1) (.slice An3 16 cn3) (.slice An2 16 cn2))) 99)
             have own3_4 := OwnL.alloc ho3_3 (.cells (row 3 (rowC (.slice An1 Lk cn1) (.slice An3 16 cn3) (.slice An2 16 cn2))) 99)
             generalize hw4 : wx3.alloc (.cells (row 3 (rowC (.slice An1 Lk cn1) (.slice An3 16 cn3) (.slice An2 16 cn2))) 99) = wx4 at hb5_4 hB_wx4 own0_4 own3_4 ⊢
             clear hw4
             refine wpAnyH_ready (rs := [6]) (by kernel_rfl) (by simp) (AllReadyH.cons rfl (fun K hK => ?_) AllReadyH.nil)
             (try simp only [Act.put, zn1, zn2, zn3, zn4, zn5, zn6])
             refine Eq.mpr (if_pos (by rfl)) ?_
             refine wp_appL _ _ rfl wz.heap.size _ R.length xs rfl own3_4 (some ⟨wx3.heap.size, 0, none⟩) 1 1 [.slice An1 Lk cn1, .slice An3 16 cn3, .slice An2 16 cn2] rfl hnw (fun h => by cases h) (hnc _ _ hb5_4) hn1 (by omega) hB_wx4.size ?_
             intro v6 W6 ho6 hB6 _
             (try simp only [Act.put, zn1, zn2, zn3, zn4, zn5, zn6])
             have hB_W6 := hB_wx4.trans hB6
             refine hK.out _ _ (keptB hB_W6) (fun _ => ?_)
             (try simp only [Act.put, zn1, zn2, zn3, zn4, zn5, zn6])
             clear hK K
             refine wpAnyH_take (i := 7) (v := .pointer (some ⟨w.heap.size, 0, none⟩)) rfl (by kernel_rfl) (by kernel_rfl) (by kernel_rfl) (fun _ _ _ h => h) (Or.inl ⟨rfl, fun W _ => by go_simp⟩) (keptB hB_W6) ?_
             (try simp only [Act.put, zn1, zn2, zn3, zn4, zn5, zn6])
             refine wpAnyH_ready (rs := [8]) (by kernel_rfl) (by simp) (AllReadyH.cons rfl (fun K hK => ?_) AllReadyH.nil)
             (try simp only [Act.put, zn1, zn2, zn3, zn4, zn5, zn6])
             refine Eq.mpr (if_pos (by rfl)) ?_
             have hv6 : ∃ A6 c6, v6 = .slice A6 (R.length + 1) c6 := by
              rcases ho6.2 with ⟨h1, h2⟩ | ⟨g, c6, cur, h1, -⟩
              ·omega
              ·exact ⟨_, _, h1⟩
             have h1v : v6.oneCell' = true := by obtain ⟨A6, c6, rfl⟩ := hv6; rfl
             have h2v : v6.cells = #[v6] := by obtain ⟨A6, c6, rfl⟩ := hv6; rfl
             refine wp_skipw (exec_stV 34 _ _ rfl ⟨w.heap.size, 0, none⟩ rfl v6 rfl h1v h2v iSRow _ (c4 _ hB_W6) ((H4z.out.below hB_W6 H4z.out.lt).free 0)) ?_
             (try simp only [Act.put, zn1, zn2, zn3, zn4, zn5, zn6])
             have hp := past24 hz1 H4z.out H8z.out hB_W6 ho6
             refine hK.out _ _ ⟨hp.kept, hp.size⟩ (fun _ => ?_)
             (try simp only [Act.put, zn1, zn2, zn3, zn4, zn5, zn6])
             clear hK K
             refine wpAnyH_done (by kernel_rfl) ?_ _
             generalize W6.setCell ⟨w.heap.size, 0, none⟩ v6 = W7 at hp ⊢
             generalize Value.slice (some ⟨wd0.heap.size, 0, none⟩) 0 0 = va
             generalize Value.slice (some ⟨wx3.heap.size, 0, none⟩) 1 1 = vc
             exact kk W7 va v3_3 vc v6 hp
            ·(try simp only [Act.put, zn1, zn2, zn3, zn4, zn5, zn6])
             refine Eq.mpr (if_pos (by rfl)) ?_
             refine wp_valw _ (exec_bs1 34 _ rfl (.agg (row 3 (rowC (.slice An1 Lk cn1) (.slice An3 16 cn3) (.slice An2 16 cn2)))) (.slice (some ⟨wx1.heap.size, 0, none⟩) 1 1) rfl (bsR1 _ _ _ _)) ?_
             (try simp only [Act.put, zn1, zn2, zn3, zn4, zn5, zn6])
             refine hK.out _ _ (keptB (hB_wx1.alloc hB_wx1.size _)) (fun _ => ?_)
             (try simp only [Act.put, zn1, zn2, zn3, zn4, zn5, zn6])
             clear hK K
             have hb5_6 := Blk.fresh wx1 99 (row 3 (rowC (.slice An1 Lk cn1) (.slice An3 16 cn3) (.slice An2 16 cn2)))
             have hB_wx6 := hB_wx1.alloc hB_wx1.size (.cells (row 3 (rowC (.slice An1 Lk cn1) (.slice An3 16 cn3) (.slice An2 16 cn2))) 99)
             have own0_6 := OwnL.alloc hoE1 (.cells (row 3 (rowC (.slice An1 Lk cn1) (.slice An3 16 cn3) (.slice An2 16 cn2))) 99)
             generalize hw6 : wx1.alloc (.cells (row 3 (rowC (.slice An1 Lk cn1) (.slice An3 16 cn3) (.slice An2 16 cn2))) 99) = wx6 at hb5_6 hB_wx6 own0_6 ⊢
             clear hw6
             refine wpAnyH_ready (rs := [3]) (by kernel_rfl) (by simp) (AllReadyH.cons rfl (fun K hK => ?_) AllReadyH.nil)
             (try simp only [Act.put, zn1, zn2, zn3, zn4, zn5, zn6])
             refine Eq.mpr (if_pos (by rfl)) ?_
             refine wp_appL _ _ rfl wz.heap.size _ 0 [] rfl own0_6 Ar R.length cr xs rfl hxl HAr.out (hxc2 _ hB_wx6) hx1 (by omega) hB_wx6.size ?_
             intro v3_7 wx7 ho3_7 hB3_7 hG3_7
             (try simp only [Act.put, zn1, zn2, zn3, zn4, zn5, zn6])
             have hB_wx7 := hB_wx6.trans hB3_7
             refine hK.out _ _ (keptB hB_wx7) (fun _ => ?_)
             (try simp only [Act.put, zn1, zn2, zn3, zn4, zn5, zn6])
             clear hK K
             rw [Nat.zero_add, List.nil_append] at ho3_7
             have hb5_7 := hb5_6.grown hG3_7 (ne_own (by omega))
             refine wpAnyH_ready (rs := [6]) (by kernel_rfl) (by simp) (AllReadyH.cons rfl (fun K hK => ?_) AllReadyH.nil)
             (try simp only [Act.put, zn1, zn2, zn3, zn4, zn5, zn6])
             refine Eq.mpr (if_pos (by rfl)) ?_
             refine wp_appL _ _ rfl wz.heap.size _ R.length xs rfl ho3_7 (some ⟨wx1.heap.size, 0, none⟩) 1 1 [.slice An1 Lk cn1, .slice An3 16 cn3, .slice An2 16 cn2] rfl hnw (fun h => by cases h) (hnc _ _ hb5_7) hn1 (by omega) hB_wx7.size ?_
             intro v6 W6 ho6 hB6 _
             (try simp only [Act.put, zn1, zn2, zn3, zn4, zn5, zn6])
             have hB_W6 := hB_wx7.trans hB6
             refine hK.out _ _ (keptB hB_W6) (fun _ => ?_)
             (try simp only [Act.put, zn1, zn2, zn3, zn4, zn5, zn6])
             clear hK K
             refine wpAnyH_take (i := 7) (v := .pointer (some ⟨w.heap.size, 0, none⟩)) rfl (by kernel_rfl) (by kernel_rfl) (by kernel_rfl) (fun _ _ _ h => h) (Or.inl ⟨rfl, fun W _ => by go_simp⟩) (keptB hB_W6) ?_
             (try simp only [Act.put, zn1, zn2, zn3, zn4, zn5, zn6])
             refine wpAnyH_ready (rs := [8]) (by kernel_rfl) (by simp) (AllReadyH.cons rfl (fun K hK => ?_) AllReadyH.nil)
             (try simp only [Act.put, zn1, zn2, zn3, zn4, zn5, zn6])
             refine Eq.mpr (if_pos (by rfl)) ?_
             have hv6 : ∃ A6 c6, v6 = .slice A6 (R.length + 1) c6 := by
              rcases ho6.2 with ⟨h1, h2⟩ | ⟨g, c6, cur, h1, -⟩
              ·omega
              ·exact ⟨_, _, h1⟩
             have h1v : v6.oneCell' = true := by obtain ⟨A6, c6, rfl⟩ := hv6; rfl
             have h2v : v6.cells = #[v6] := by obtain ⟨A6, c6, rfl⟩ := hv6; rfl
             refine wp_skipw (exec_stV 34 _ _ rfl ⟨w.heap.size, 0, none⟩ rfl v6 rfl h1v h2v iSRow _ (c4 _ hB_W6) ((H4z.out.below hB_W6 H4z.out.lt).free 0)) ?_
             (try simp only [Act.put, zn1, zn2, zn3, zn4, zn5, zn6])
             have hp := past24 hz1 H4z.out H8z.out hB_W6 ho6
             refine hK.out _ _ ⟨hp.kept, hp.size⟩ (fun _ => ?_)
             (try simp only [Act.put, zn1, zn2, zn3, zn4, zn5, zn6])
             clear hK K
             refine wpAnyH_done (by kernel_rfl) ?_ _
             generalize W6.setCell ⟨w.heap.size, 0, none⟩ v6 = W7 at hp ⊢
             generalize Value.slice (some ⟨wd0.heap.size, 0, none⟩) 0 0 = va
             generalize Value.slice (some ⟨wx1.heap.size, 0, none⟩) 1 1 = vc
             exact kk W7 va v3_7 vc v6 hp
           ·(try simp only [Act.put, zn1, zn2, zn3, zn4, zn5, zn6])
            refine Eq.mpr (if_pos (by rfl)) ?_
            refine wp_valw _ (exec_bs1 34 _ rfl (.agg (row 3 (rowC (.slice An1 Lk cn1) (.slice An3 16 cn3) (.slice An2 16 cn2)))) (.slice (some ⟨wx1.heap.size, 0, none⟩) 1 1) rfl (bsR1 _ _ _ _)) ?_
            (try simp only [Act.put, zn1, zn2, zn3, zn4, zn5, zn6])
            refine hK.out _ _ (keptB (hB_wx1.alloc hB_wx1.size _)) (fun _ => ?_)
            (try simp only [Act.put, zn1, zn2, zn3, zn4, zn5, zn6])
            clear hK K
            have hb5_9 := Blk.fresh wx1 99 (row 3 (rowC (.slice An1 Lk cn1) (.slice An3 16 cn3) (.slice An2 16 cn2)))
            have hB_wx9 := hB_wx1.alloc hB_wx1.size (.cells (row 3 (rowC (.slice An1 Lk cn1) (.slice An3 16 cn3) (.slice An2 16 cn2))) 99)
            have own0_9 := OwnL.alloc hoE1 (.cells (row 3 (rowC (.slice An1 Lk cn1) (.slice An3 16 cn3) (.slice An2 16 cn2))) 99)
            generalize hw9 : wx1.alloc (.cells (row 3 (rowC (.slice An1 Lk cn1) (.slice An3 16 cn3) (.slice An2 16 cn2))) 99) = wx9 at hb5_9 hB_wx9 own0_9 ⊢
            clear hw9
            refine wpAnyH_ready (rs := [2]) (by kernel_rfl) (by simp) (AllReadyH.cons rfl (fun K hK => ?_) AllReadyH.nil)
            (try simp only [Act.put, zn1, zn2, zn3, zn4, zn5, zn6])
            refine Eq.mpr (if_pos (by rfl)) ?_
            refine wp_valw _ (exec_ldsl 34 _ rfl ⟨w.heap.size, 0, none⟩ rfl 99 Tryz.underlying34 (.slice Ar R.length cr) (c4 _ hB_wx9)) ?_
            (try simp only [Act.put, zn1, zn2, zn3, zn4, zn5, zn6])
            refine hK.out _ _ (keptB hB_wx9) (fun _ => ?_)
            (try simp only [Act.put, zn1, zn2, zn3, zn4, zn5, zn6])
            clear hK K
            refine wpAnyH_ready (rs := [3]) (by kernel_rfl) (by simp) (AllReadyH.cons rfl (fun K hK => ?_) AllReadyH.nil)
            (try simp only [Act.put, zn1, zn2, zn3, zn4, zn5, zn6])
            refine Eq.mpr (if_pos (by rfl)) ?_
            refine wp_appL _ _ rfl wz.heap.size _ 0 [] rfl own0_9 Ar R.length cr xs rfl hxl HAr.out (hxc2 _ hB_wx9) hx1 (by omega) hB_wx9.size ?_
            intro v3_11 wx11 ho3_11 hB3_11 hG3_11
            (try simp only [Act.put, zn1, zn2, zn3, zn4, zn5, zn6])
            have hB_wx11 := hB_wx9.trans hB3_11
            refine hK.out _ _ (keptB hB_wx11) (fun _ => ?_)
            (try simp only [Act.put, zn1, zn2, zn3, zn4, zn5, zn6])
            clear hK K
            rw [Nat.zero_add, List.nil_append] at ho3_11
            have hb5_11 := hb5_9.grown hG3_11 (ne_own (by omega))
            refine wpAnyH_ready (rs := [6]) (by kernel_rfl) (by simp) (AllReadyH.cons rfl (fun K hK => ?_) AllReadyH.nil)
            (try simp only [Act.put, zn1, zn2, zn3, zn4, zn5, zn6])
            refine Eq.mpr (if_pos (by rfl)) ?_
            refine wp_appL _ _ rfl wz.heap.size _ R.length xs rfl ho3_11 (some ⟨wx1.heap.size, 0, none⟩) 1 1 [.slice An1 Lk cn1, .slice An3 16 cn3, .slice An2 16 cn2] rfl hnw (fun h => by cases h) (hnc _ _ hb5_11) hn1 (by omega) hB_wx11.size ?_
            intro v6 W6 ho6 hB6 _
            (try simp only [Act.put, zn1, zn2, zn3, zn4, zn5, zn6])
            have hB_W6 := hB_wx11.trans hB6
            refine hK.out _ _ (keptB hB_W6) (fun _ => ?_)
            (try simp only [Act.put, zn1, zn2, zn3, zn4, zn5, zn6])
            clear hK K
            refine wpAnyH_take (i := 7) (v := .pointer (some ⟨w.heap.size, 0, none⟩)) rfl (by kernel_rfl) (by kernel_rfl) (by kernel_rfl) (fun _ _ _ h => h) (Or.inl ⟨rfl, fun W _ => by go_simp⟩) (keptB hB_W6) ?_
            (try simp only [Act.put, zn1, zn2, zn3, zn4, zn5, zn6])
            refine wpAnyH_ready (rs := [8]) (by kernel_rfl) (by simp) (AllReadyH.cons rfl (fun K hK => ?_) AllReadyH.nil)
            (try simp only [Act.put, zn1, zn2, zn3, zn4, zn5, zn6])
            refine Eq.mpr (if_pos (by rfl)) ?_
            have hv6 : ∃ A6 c6, v6 = .slice A6 (R.length + 1) c6 := by
             rcases ho6.2 with ⟨h1, h2⟩ | ⟨g, c6, cur, h1, -⟩
             ·omega
             ·exact ⟨_, _, h1⟩
            have h1v : v6.oneCell' = true := by obtain ⟨A6, c6, rfl⟩ := hv6; rfl
            have h2v : v6.cells = #[v6] := by obtain ⟨A6, c6, rfl⟩ := hv6; rfl
            refine wp_skipw (exec_stV 34 _ _ rfl ⟨w.heap.size, 0, none⟩ rfl v6 rfl h1v h2v iSRow _ (c4 _ hB_W6) ((H4z.out.below hB_W6 H4z.out.lt).free 0)) ?_
            (try simp only [Act.put, zn1, zn2, zn3, zn4, zn5, zn6])
            have hp := past24 hz1 H4z.out H8z.out hB_W6 ho6
            refine hK.out _ _ ⟨hp.kept, hp.size⟩ (fun _ => ?_)
            (try simp only [Act.put, zn1, zn2, zn3, zn4, zn5, zn6])
            clear hK K
            refine wpAnyH_done (by kernel_rfl) ?_ _
            generalize W6.setCell ⟨w.heap.size, 0, none⟩ v6 = W7 at hp ⊢
            generalize Value.slice (some ⟨wd0.heap.size, 0, none⟩) 0 0 = va
            generalize Value.slice (some ⟨wx1.heap.size, 0, none⟩) 1 1 = vc
            exact kk W7 va v3_11 vc v6 hp
          ·(try simp only [Act.put, zn1, zn2, zn3, zn4, zn5, zn6])
           refine Eq.mpr (if_pos (by rfl)) ?_
           refine wp_valw _ (exec_ldsl 34 _ rfl ⟨w.heap.size, 0, none⟩ rfl 99 Tryz.underlying34 (.slice Ar R.length cr) (c4 _ hB_wd0)) ?_
           (try simp only [Act.put, zn1, zn2, zn3, zn4, zn5, zn6])
           refine hK.out _ _ (keptB hB_wd0) (fun _ => ?_)
           (try simp only [Act.put, zn1, zn2, zn3, zn4, zn5, zn6])
           clear hK K
           refine wpAnyH_ready (rs := [0, 5]) (by kernel_rfl) (by simp) ?_
           refine AllReadyH.cons rfl (fun K hK => ?_) (AllReadyH.cons rfl (fun K hK => ?_) AllReadyH.nil)
           ·(try simp only [Act.put, zn1, zn2, zn3, zn4, zn5, zn6])
            refine Eq.mpr (if_pos (by rfl)) ?_
            refine wp_valw _ (exec_bs0 34 rfl (.slice (some ⟨wd0.heap.size, 0, none⟩) 0 0) (bsR0 _)) ?_
            (try simp only [Act.put, zn1, zn2, zn3, zn4, zn5, zn6])
            refine hK.out _ _ (keptB (hB_wd0.alloc hB_wd0.size _)) (fun _ => ?_)
            (try simp only [Act.put, zn1, zn2, zn3, zn4, zn5, zn6])
            clear hK K
            have hoE14 := OwnL.empty wd0 wz.heap.size hB_wd0.size
            have hB_wx14 := hB_wd0.alloc hB_wd0.size (.cells #[] 99)
            have hsE14 : wd0.heap.size < (wd0.alloc (.cells #[] 99)).heap.size := by simp
            generalize hw14 : wd0.alloc (.cells #[] 99) = wx14 at hoE14 hB_wx14 hsE14 ⊢
            clear hw14
            refine wpAnyH_ready (rs := [3, 5]) (by kernel_rfl) (by simp) ?_
            refine AllReadyH.cons rfl (fun K hK => ?_) (AllReadyH.cons rfl (fun K hK => ?_) AllReadyH.nil)
            ·(try simp only [Act.put, zn1, zn2, zn3, zn4, zn5, zn6])
             refine Eq.mpr (if_pos (by rfl)) ?_
             refine wp_appL _ _ rfl wz.heap.size _ 0 [] rfl hoE14 Ar R.length cr xs rfl hxl HAr.out (hxc2 _ hB_wx14) hx1 (by omega) hB_wx14.size ?_
             intro v3_15 wx15 ho3_15 hB3_15 hG3_15
             (try simp only [Act.put, zn1, zn2, zn3, zn4, zn5, zn6])
             have hB_wx15 := hB_wx14.trans hB3_15
             refine hK.out _ _ (keptB hB_wx15) (fun _ => ?_)
             (try simp only [Act.put, zn1, zn2, zn3, zn4, zn5, zn6])
             clear hK K
             rw [Nat.zero_add, List.nil_append] at ho3_15
             refine wpAnyH_ready (rs := [5]) (by kernel_rfl) (by simp) (AllReadyH.cons rfl (fun K hK => ?_) AllReadyH.nil)
             (try simp only [Act.put, zn1, zn2, zn3, zn4, zn5, zn6])
             refine Eq.mpr (if_pos (by rfl)) ?_
             refine wp_valw _ (exec_bs1 34 _ rfl (.agg (row 3 (rowC (.slice An1 Lk cn1) (.slice An3 16 cn3) (.slice An2 16 cn2)))) (.slice (some ⟨wx15.heap.size, 0, none⟩) 1 1) rfl (bsR1 _ _ _ _)) ?_
             (try simp only [Act.put, zn1, zn2, zn3, zn4, zn5, zn6])
             refine hK.out _ _ (keptB (hB_wx15.alloc hB_wx15.size _)) (fun _ => ?_)
             (try simp only [Act.put, zn1, zn2, zn3, zn4, zn5, zn6])
             clear hK K
             have hb5_16 := Blk.fresh wx15 99 (row 3 (rowC (.slice An1 Lk cn1) (.slice An3 16 cn3) (.slice An2 16 cn2)))
             have hB_wx16 := hB_wx15.alloc hB_wx15.size (.cells (row 3 (rowC (.slice An1 Lk cn1) (.slice An3 16 cn3) (.slice An2 16 cn2))) 99)
             have own0_16 := OwnL.alloc hoE14 (.cells (row 3 (rowC (.slice An1 Lk cn1) (.slice An3 16 cn3) (.slice An2 16 cn2))) 99)
             have own3_16 := OwnL.alloc ho3_15 (.cells (row 3 (rowC (.slice An1 Lk cn1) (.slice An3 16 cn3) (.slice An2 16 cn2))) 99)
             generalize hw16 : wx15.alloc (.cells (row 3 (rowC (.slice An1 Lk cn1) (.slice An3 16 cn3) (.slice An2 16 cn2))) 99) = wx16 at hb5_16 hB_wx16 own0_16 own3_16 ⊢
             clear hw16
             refine wpAnyH_ready (rs := [6]) (by kernel_rfl) (by simp) (AllReadyH.cons rfl (fun K hK => ?_) AllReadyH.nil)
             (try simp only [Act.put, zn1, zn2, zn3, zn4, zn5, zn6])
             refine Eq.mpr (if_pos (by rfl)) ?_
             refine wp_appL _ _ rfl wz.heap.size _ R.length xs rfl own3_16 (some ⟨wx15.heap.size, 0, none⟩) 1 1 [.slice An1 Lk cn1, .slice An3 16 cn3, .slice An2 16 cn2] rfl hnw (fun h => by cases h) (hnc _ _ hb5_16) hn1 (by omega) hB_wx16.size ?_
             intro v6 W6 ho6 hB6 _
             (try simp only [Act.put, zn1, zn2, zn3, zn4, zn5, zn6])
             have hB_W6 := hB_wx16.trans hB6
             refine hK.out _ _ (keptB hB_W6) (fun _ => ?_)
             (try simp only [Act.put, zn1, zn2, zn3, zn4, zn5, zn6])
             clear hK K
             refine wpAnyH_take (i := 7) (v := .pointer (some ⟨w.heap.size, 0, none⟩)) rfl (by kernel_rfl) (by kernel_rfl) (by kernel_rfl) (fun _ _ _ h => h) (Or.inl ⟨rfl, fun W _ => by go_simp⟩) (keptB hB_W6) ?_
             (try simp only [Act.put, zn1, zn2, zn3, zn4, zn5, zn6])
             refine wpAnyH_ready (rs := [8]) (by kernel_rfl) (by simp) (AllReadyH.cons rfl (fun K hK => ?_) AllReadyH.nil)
             (try simp only [Act.put, zn1, zn2, zn3, zn4, zn5, zn6])
             refine Eq.mpr (if_pos (by rfl)) ?_
             have hv6 : ∃ A6 c6, v6 = .slice A6 (R.length + 1) c6 := by
              rcases ho6.2 with ⟨h1, h2⟩ | ⟨g, c6, cur, h1, -⟩
              ·omega
              ·exact ⟨_, _, h1⟩
             have h1v : v6.oneCell' = true := by obtain ⟨A6, c6, rfl⟩ := hv6; rfl
             have h2v : v6.cells = #[v6] := by obtain ⟨A6, c6, rfl⟩ := hv6; rfl
             refine wp_skipw (exec_stV 34 _ _ rfl ⟨w.heap.size, 0, none⟩ rfl v6 rfl h1v h2v iSRow _ (c4 _ hB_W6) ((H4z.out.below hB_W6 H4z.out.lt).free 0)) ?_
             (try simp only [Act.put, zn1, zn2, zn3, zn4, zn5, zn6])
             have hp := past24 hz1 H4z.out H8z.out hB_W6 ho6
             refine hK.out _ _ ⟨hp.kept, hp.size⟩ (fun _ => ?_)
             (try simp only [Act.put, zn1, zn2, zn3, zn4, zn5, zn6])
             clear hK K
             refine wpAnyH_done (by kernel_rfl) ?_ _
             generalize W6.setCell ⟨w.heap.size, 0, none⟩ v6 = W7 at hp ⊢
             generalize Value.slice (some ⟨wd0.heap.size, 0, none⟩) 0 0 = va
             generalize Value.slice (some ⟨wx15.heap.size, 0, none⟩) 1 1 = vc
             exact kk W7 va v3_15 vc v6 hp
            ·(try simp only [Act.put, zn1, zn2, zn3, zn4, zn5, zn6])
             refine Eq.mpr (if_pos (by rfl)) ?_
             refine wp_valw _ (exec_bs1 34 _ rfl (.agg (row 3 (rowC (.slice An1 Lk cn1) (.slice An3 16 cn3) (.slice An2 16 cn2)))) (.slice (some ⟨wx14.heap.size, 0, none⟩) 1 1) rfl (bsR1 _ _ _ _)) ?_
             (try simp only [Act.put, zn1, zn2, zn3, zn4, zn5, zn6])
             refine hK.out _ _ (keptB (hB_wx14.alloc hB_wx14.size _)) (fun _ => ?_)
             (try simp only [Act.put, zn1, zn2, zn3, zn4, zn5, zn6])
             clear hK K
             have hb5_18 := Blk.fresh wx14 99 (row 3 (rowC (.slice An1 Lk cn1) (.slice An3 16 cn3) (.slice An2 16 cn2)))
             have hB_wx18 := hB_wx14.alloc hB_wx14.size (.cells (row 3 (rowC (.slice An1 Lk cn1) (.slice An3 16 cn3) (.slice An2 16 cn2))) 99)
             have own0_18 := OwnL.alloc hoE14 (.cells (row 3 (rowC (.slice An1 Lk cn1) (.slice An3 16 cn3) (.slice An2 16 cn2))) 99)
             generalize hw18 : wx14.alloc (.cells (row 3 (rowC (.slice An1 Lk cn1) (.slice An3 16 cn3) (.slice An2 16 cn2))) 99) = wx18 at hb5_18 hB_wx18 own0_18 ⊢
             clear hw18
             refine wpAnyH_ready (rs := [3]) (by kernel_rfl) (by simp) (AllReadyH.cons rfl (fun K hK => ?_) AllReadyH.nil)
             (try simp only [Act.put, zn1, zn2, zn3, zn4, zn5, zn6])
             refine Eq.mpr (if_pos (by rfl)) ?_
             refine wp_appL _ _ rfl wz.heap.size _ 0 [] rfl own0_18 Ar R.length cr xs rfl hxl HAr.out (hxc2 _ hB_wx18) hx1 (by omega) hB_wx18.size ?_
             intro v3_19 wx19 ho3_19 hB3_19 hG3_19
             (try simp only [Act.put, zn1, zn2, zn3, zn4, zn5, zn6])
             have hB_wx19 := hB_wx18.trans hB3_19
             refine hK.out _ _ (keptB hB_wx19) (fun _ => ?_)
             (try simp only [Act.put, zn1, zn2, zn3, zn4, zn5, zn6])
             clear hK K
             rw [Nat.zero_add, List.nil_append] at ho3_19
             have hb5_19 := hb5_18.grown hG3_19 (ne_own (by omega))
             refine wpAnyH_ready (rs := [6]) (by kernel_rfl) (by simp) (AllReadyH.cons rfl (fun K hK => ?_) AllReadyH.nil)
             (try simp only [Act.put, zn1, zn2, zn3, zn4, zn5, zn6])
             refine Eq.mpr (if_pos (by rfl)) ?_
             refine wp_appL _ _ rfl wz.heap.size _ R.length xs rfl ho3_19 (some ⟨wx14.heap.size, 0, none⟩) 1 1 [.slice An1 Lk cn1, .slice An3 16 cn3, .slice An2 16 cn2] rfl hnw (fun h => by cases h) (hnc _ _ hb5_19) hn1 (by omega) hB_wx19.size ?_
             intro v6 W6 ho6 hB6 _
             (try simp only [Act.put, zn1, zn2, zn3, zn4, zn5, zn6])
             have hB_W6 := hB_wx19.trans hB6
             refine hK.out _ _ (keptB hB_W6) (fun _ => ?_)
             (try simp only [Act.put, zn1, zn2, zn3, zn4, zn5, zn6])
             clear hK K
             refine wpAnyH_take (i := 7) (v := .pointer (some ⟨w.heap.size, 0, none⟩)) rfl (by kernel_rfl) (by kernel_rfl) (by kernel_rfl) (fun _ _ _ h => h) (Or.inl ⟨rfl, fun W _ => by go_simp⟩) (keptB hB_W6) ?_
             (try simp only [Act.put, zn1, zn2, zn3, zn4, zn5, zn6])
             refine wpAnyH_ready (rs := [8]) (by kernel_rfl) (by simp) (AllReadyH.cons rfl (fun K hK => ?_) AllReadyH.nil)
             (try simp only [Act.put, zn1, zn2, zn3, zn4, zn5, zn6])
             refine Eq.mpr (if_pos (by rfl)) ?_
             have hv6 : ∃ A6 c6, v6 = .slice A6 (R.length + 1) c6 := by
              rcases ho6.2 with ⟨h1, h2⟩ | ⟨g, c6, cur, h1, -⟩
              ·omega
              ·exact ⟨_, _, h1⟩
             have h1v : v6.oneCell' = true := by obtain ⟨A6, c6, rfl⟩ := hv6; rfl
             have h2v : v6.cells = #[v6] := by obtain ⟨A6, c6, rfl⟩ := hv6; rfl
             refine wp_skipw (exec_stV 34 _ _ rfl ⟨w.heap.size, 0, none⟩ rfl v6 rfl h1v h2v iSRow _ (c4 _ hB_W6) ((H4z.out.below hB_W6 H4z.out.lt).free 0)) ?_
             (try simp only [Act.put, zn1, zn2, zn3, zn4, zn5, zn6])
             have hp := past24 hz1 H4z.out H8z.out hB_W6 ho6
             refine hK.out _ _ ⟨hp.kept, hp.size⟩ (fun _ => ?_)
             (try simp only [Act.put, zn1, zn2, zn3, zn4, zn5, zn6])
             clear hK K
             refine wpAnyH_done (by kernel_rfl) ?_ _
             generalize W6.setCell ⟨w.heap.size, 0, none⟩ v6 = W7 at hp ⊢
             generalize Value.slice (some ⟨wd0.heap.size, 0, none⟩) 0 0 = va
             generalize Value.slice (some ⟨wx14.heap.size, 0, none⟩) 1 1 = vc
             exact kk W7 va v3_19 vc v6 hp
           ·(try simp only [Act.put, zn1, zn2, zn3, zn4, zn5, zn6])
            refine Eq.mpr (if_pos (by rfl)) ?_
            refine wp_valw _ (exec_bs1 34 _ rfl (.agg (row 3 (rowC (.slice An1 Lk cn1) (.slice An3 16 cn3) (.slice An2 16 cn2)))) (.slice (some ⟨wd0.heap.size, 0, none⟩) 1 1) rfl (bsR1 _ _ _ _)) ?_
            (try simp only [Act.put, zn1, zn2, zn3, zn4, zn5, zn6])
            refine hK.out _ _ (keptB (hB_wd0.alloc hB_wd0.size _)) (fun _ => ?_)
            (try simp only [Act.put, zn1, zn2, zn3, zn4, zn5, zn6])
            clear hK K
            have hb5_21 := Blk.fresh wd0 99 (row 3 (rowC (.slice An1 Lk cn1) (.slice An3 16 cn3) (.slice An2 16 cn2)))
            have hB_wx21 := hB_wd0.alloc hB_wd0.size (.cells (row 3 (rowC (.slice An1 Lk cn1) (.slice An3 16 cn3) (.slice An2 16 cn2))) 99)
            generalize hw21 : wd0.alloc (.cells (row 3 (rowC (.slice An1 Lk cn1) (.slice An3 16 cn3) (.slice An2 16 cn2))) 99) = wx21 at hb5_21 hB_wx21 ⊢
            clear hw21
            refine wpAnyH_ready (rs := [0]) (by kernel_rfl) (by simp) (AllReadyH.cons rfl (fun K hK => ?_) AllReadyH.nil)
            (try simp only [Act.put, zn1, zn2, zn3, zn4, zn5, zn6])
            refine Eq.mpr (if_pos (by rfl)) ?_
            refine wp_valw _ (exec_bs0 34 rfl (.slice (some ⟨wx21.heap.size, 0, none⟩) 0 0) (bsR0 _)) ?_
            (try simp only [Act.put, zn1, zn2, zn3, zn4, zn5, zn6])
            refine hK.out _ _ (keptB (hB_wx21.alloc hB_wx21.size _)) (fun _ => ?_)
            (try simp only [Act.put, zn1, zn2, zn3, zn4, zn5, zn6])
            clear hK K
            have hoE22 := OwnL.empty wx21 wz.heap.size hB_wx21.size
            have hB_wx22 := hB_wx21.alloc hB_wx21.size (.cells #[] 99)
            have hsE22 : wx21.heap.size < (wx21.alloc (.cells #[] 99)).heap.size := by simp
            have hb5_22 := hb5_21.alloc (.cells #[] 99)
            have hb5l_22 := hb5_21.lt
            generalize hw22 : wx21.alloc (.cells #[] 99) = wx22 at hoE22 hB_wx22 hsE22 hb5_22 ⊢
            clear hw22
            refine wpAnyH_ready (rs := [3]) (by kernel_rfl) (by simp) (AllReadyH.cons rfl (fun K hK => ?_) AllReadyH.nil)
            (try simp only [Act.put, zn1, zn2, zn3, zn4, zn5, zn6])
            refine Eq.mpr (if_pos (by rfl)) ?_
            refine wp_appL _ _ rfl wz.heap.size _ 0 [] rfl hoE22 Ar R.length cr xs rfl hxl HAr.out (hxc2 _ hB_wx22) hx1 (by omega) hB_wx22.size ?_
            intro v3_23 wx23 ho3_23 hB3_23 hG3_23
            (try simp only [Act.put, zn1, zn2, zn3, zn4, zn5, zn6])
            have hB_wx23 := hB_wx22.trans hB3_23
            refine hK.out _ _ (keptB hB_wx23) (fun _ => ?_)
            (try simp only [Act.put, zn1, zn2, zn3, zn4, zn5, zn6])
            clear hK K
            rw [Nat.zero_add, List.nil_append] at ho3_23
            have hb5_23 := hb5_22.grown hG3_23 (ne_own (by omega))
            refine wpAnyH_ready (rs := [6]) (by kernel_rfl) (by simp) (AllReadyH.cons rfl (fun K hK => ?_) AllReadyH.nil)
            (try simp only [Act.put, zn1, zn2, zn3, zn4, zn5, zn6])
            refine Eq.mpr (if_pos (by rfl)) ?_
            refine wp_appL _ _ rfl wz.heap.size _ R.length xs rfl ho3_23 (some ⟨wd0.heap.size, 0, none⟩) 1 1 [.slice An1 Lk cn1, .slice An3 16 cn3, .slice An2 16 cn2] rfl hnw (fun h => by cases h) (hnc _ _ hb5_23) hn1 (by omega) hB_wx23.size ?_
            intro v6 W6 ho6 hB6 _
            (try simp only [Act.put, zn1, zn2, zn3, zn4, zn5, zn6])
            have hB_W6 := hB_wx23.trans hB6
            refine hK.out _ _ (keptB hB_W6) (fun _ => ?_)
            (try simp only [Act.put, zn1, zn2, zn3, zn4, zn5, zn6])
            clear hK K
            refine wpAnyH_take (i := 7) (v := .pointer (some ⟨w.heap.size, 0, none⟩)) rfl (by kernel_rfl) (by kernel_rfl) (by kernel_rfl) (fun _ _ _ h => h) (Or.inl ⟨rfl, fun W _ => by go_simp⟩) (keptB hB_W6) ?_
            (try simp only [Act.put, zn1, zn2, zn3, zn4, zn5, zn6])
            refine wpAnyH_ready (rs := [8]) (by kernel_rfl) (by simp) (AllReadyH.cons rfl (fun K hK => ?_) AllReadyH.nil)
            (try simp only [Act.put, zn1, zn2, zn3, zn4, zn5, zn6])
            refine Eq.mpr (if_pos (by rfl)) ?_
            have hv6 : ∃ A6 c6, v6 = .slice A6 (R.length + 1) c6 := by
             rcases ho6.2 with ⟨h1, h2⟩ | ⟨g, c6, cur, h1, -⟩
             ·omega
             ·exact ⟨_, _, h1⟩
            have h1v : v6.oneCell' = true := by obtain ⟨A6, c6, rfl⟩ := hv6; rfl
            have h2v : v6.cells = #[v6] := by obtain ⟨A6, c6, rfl⟩ := hv6; rfl
            refine wp_skipw (exec_stV 34 _ _ rfl ⟨w.heap.size, 0, none⟩ rfl v6 rfl h1v h2v iSRow _ (c4 _ hB_W6) ((H4z.out.below hB_W6 H4z.out.lt).free 0)) ?_
            (try simp only [Act.put, zn1, zn2, zn3, zn4, zn5, zn6])
            have hp := past24 hz1 H4z.out H8z.out hB_W6 ho6
            refine hK.out _ _ ⟨hp.kept, hp.size⟩ (fun _ => ?_)
            (try simp only [Act.put, zn1, zn2, zn3, zn4, zn5, zn6])
            clear hK K
            refine wpAnyH_done (by kernel_rfl) ?_ _
            generalize W6.setCell ⟨w.heap.size, 0, none⟩ v6 = W7 at hp ⊢
            generalize Value.slice (some ⟨wx21.heap.size, 0, none⟩) 0 0 = va
            generalize Value.slice (some ⟨wd0.heap.size, 0, none⟩) 1 1 = vc
            exact kk W7 va v3_23 vc v6 hp
          ·(try simp only [Act.put, zn1, zn2, zn3, zn4, zn5, zn6])
           refine Eq.mpr (if_pos (by rfl)) ?_
           refine wp_valw _ (exec_bs1 34 _ rfl (.agg (row 3 (rowC (.slice An1 Lk cn1) (.slice An3 16 cn3) (.slice An2 16 cn2)))) (.slice (some ⟨wd0.heap.size, 0, none⟩) 1 1) rfl (bsR1 _ _ _ _)) ?_
           (try simp only [Act.put, zn1, zn2, zn3, zn4, zn5, zn6])
           refine hK.out _ _ (keptB (hB_wd0.alloc hB_wd0.size _)) (fun _ => ?_)
           (try simp only [Act.put, zn1, zn2, zn3, zn4, zn5, zn6])
           clear hK K
           have hb5_25 := Blk.fresh wd0 99 (row 3 (rowC (.slice An1 Lk cn1) (.slice An3 16 cn3) (.slice An2 16 cn2)))
           have hB_wx25 := hB_wd0.alloc hB_wd0.size (.cells (row 3 (rowC (.slice An1 Lk cn1) (.slice An3 16 cn3) (.slice An2 16 cn2))) 99)
           generalize hw25 : wd0.alloc (.cells (row 3 (rowC (.slice An1 Lk cn1) (.slice An3 16 cn3) (.slice An2 16 cn2))) 99) = wx25 at hb5_25 hB_wx25 ⊢
           clear hw25
           refine wpAnyH_ready (rs := [0, 2]) (by kernel_rfl) (by simp) ?_
           refine AllReadyH.cons rfl (fun K hK => ?_) (AllReadyH.cons rfl (fun K hK => ?_) AllReadyH.nil)
           ·(try simp only [Act.put, zn1, zn2, zn3, zn4, zn5, zn6])
            refine Eq.mpr (if_pos (by rfl)) ?_
            refine wp_valw _ (exec_bs0 34 rfl (.slice (some ⟨wx25.heap.size, 0, none⟩) 0 0) (bsR0 _)) ?_
            (try simp only [Act.put, zn1, zn2, zn3, zn4, zn5, zn6])
            refine hK.out _ _ (keptB (hB_wx25.alloc hB_wx25.size _)) (fun _ => ?_)
            (try simp only [Act.put, zn1, zn2, zn3, zn4, zn5, zn6])
            clear hK K
            have hoE26 := OwnL.empty wx25 wz.heap.size hB_wx25.size
            have hB_wx26 := hB_wx25.alloc hB_wx25.size (.cells #[] 99)
            have hsE26 : wx25.heap.size < (wx25.alloc (.cells #[] 99)).heap.size := by simp
            have hb5_26 := hb5_25.alloc (.cells #[] 99)
            have hb5l_26 := hb5_25.lt
            generalize hw26 : wx25.alloc (.cells #[] 99) = wx26 at hoE26 hB_wx26 hsE26 hb5_26 ⊢
            clear hw26
            refine wpAnyH_ready (rs := [2]) (by kernel_rfl) (by simp) (AllReadyH.cons rfl (fun K hK => ?_) AllReadyH.nil)
            (try simp only [Act.put, zn1, zn2, zn3, zn4, zn5, zn6])
            refine Eq.mpr (if_pos (by rfl)) ?_
            refine wp_valw _ (exec_ldsl 34 _ rfl ⟨w.heap.size, 0, none⟩ rfl 99 Tryz.underlying34 (.slice Ar R.length cr) (c4 _ hB_wx26)) ?_
            (try simp only [Act.put, zn1, zn2, zn3, zn4, zn5, zn6])
            refine hK.out _ _ (keptB hB_wx26) (fun _ => ?_)
            (try simp only [Act.put, zn1, zn2, zn3, zn4, zn5, zn6])
            clear hK K
            refine wpAnyH_ready (rs := [3]) (by kernel_rfl) (by simp) (AllReadyH.cons rfl (fun K hK => ?_) AllReadyH.nil)
            (try simp only [Act.put, zn1, zn2, zn3, zn4, zn5, zn6])
            refine Eq.mpr (if_pos (by rfl)) ?_
            refine wp_appL _ _ rfl wz.heap.size _ 0 [] rfl hoE26 Ar R.length cr xs rfl hxl HAr.out (hxc2 _ hB_wx26) hx1 (by omega) hB_wx26.size ?_
            intro v3_28 wx28 ho3_28 hB3_28 hG3_28
            (try simp only [Act.put, zn1, zn2, zn3, zn4, zn5, zn6])
            have hB_wx28 := hB_wx26.trans hB3_28
            refine hK.out _ _ (keptB hB_wx28) (fun _ => ?_)
            (try simp only [Act.put, zn1, zn2, zn3, zn4, zn5, zn6])
            clear hK K
            rw [Nat.zero_add, List.nil_append] at ho3_28
            have hb5_28 := hb5_26.grown hG3_28 (ne_own (by omega))
            refine wpAnyH_ready (rs := [6]) (by kernel_rfl) (by simp) (AllReadyH.cons rfl (fun K hK => ?_) AllReadyH.nil)
            (try simp only [Act.put, zn1, zn2, zn3, zn4, zn5, zn6])
            refine Eq.mpr (if_pos (by rfl)) ?_
            refine wp_appL _ _ rfl wz.heap.size _ R.length xs rfl ho3_28 (some ⟨wd0.heap.size, 0, none⟩) 1 1 [.slice An1 Lk cn1, .slice An3 16 cn3, .slice An2 16 cn2] rfl hnw (fun h => by cases h) (hnc _ _ hb5_28) hn1 (by omega) hB_wx28.size ?_
            intro v6 W6 ho6 hB6 _
            (try simp only [Act.put, zn1, zn2, zn3, zn4, zn5, zn6])
            have hB_W6 := hB_wx28.trans hB6
            refine hK.out _ _ (keptB hB_W6) (fun _ => ?_)
            (try simp only [Act.put, zn1, zn2, zn3, zn4, zn5, zn6])
            clear hK K
            refine wpAnyH_take (i := 7) (v := .pointer (some ⟨w.heap.size, 0, none⟩)) rfl (by kernel_rfl) (by kernel_rfl) (by kernel_rfl) (fun _ _ _ h => h) (Or.inl ⟨rfl, fun W _ => by go_simp⟩) (keptB hB_W6) ?_
            (try simp only [Act.put, zn1, zn2, zn3, zn4, zn5, zn6])
            refine wpAnyH_ready (rs := [8]) (by kernel_rfl) (by simp) (AllReadyH.cons rfl (fun K hK => ?_) AllReadyH.nil)
            (try simp only [Act.put, zn1, zn2, zn3, zn4, zn5, zn6])
            refine Eq.mpr (if_pos (by rfl)) ?_
            have hv6 : ∃ A6 c6, v6 = .slice A6 (R.length + 1) c6 := by
             rcases ho6.2 with ⟨h1, h2⟩ | ⟨g, c6, cur, h1, -⟩
             ·omega
             ·exact ⟨_, _, h1⟩
            have h1v : v6.oneCell' = true := by obtain ⟨A6, c6, rfl⟩ := hv6; rfl
            have h2v : v6.cells = #[v6] := by obtain ⟨A6, c6, rfl⟩ := hv6; rfl
            refine wp_skipw (exec_stV 34 _ _ rfl ⟨w.heap.size, 0, none⟩ rfl v6 rfl h1v h2v iSRow _ (c4 _ hB_W6) ((H4z.out.below hB_W6 H4z.out.lt).free 0)) ?_
            (try simp only [Act.put, zn1, zn2, zn3, zn4, zn5, zn6])
            have hp := past24 hz1 H4z.out H8z.out hB_W6 ho6
            refine hK.out _ _ ⟨hp.kept, hp.size⟩ (fun _ => ?_)
            (try simp only [Act.put, zn1, zn2, zn3, zn4, zn5, zn6])
            clear hK K
            refine wpAnyH_done (by kernel_rfl) ?_ _
            generalize W6.setCell ⟨w.heap.size, 0, none⟩ v6 = W7 at hp ⊢
            generalize Value.slice (some ⟨wx25.heap.size, 0, none⟩) 0 0 = va
            generalize Value.slice (some ⟨wd0.heap.size, 0, none⟩) 1 1 = vc
            exact kk W7 va v3_28 vc v6 hp
           ·(try simp only [Act.put, zn1, zn2, zn3, zn4, zn5, zn6])
            refine Eq.mpr (if_pos (by rfl)) ?_
            refine wp_valw _ (exec_ldsl 34 _ rfl ⟨w.heap.size, 0, none⟩ rfl 99 Tryz.underlying34 (.slice Ar R.length cr) (c4 _ hB_wx25)) ?_
            (try simp only [Act.put, zn1, zn2, zn3, zn4, zn5, zn6])
            refine hK.out _ _ (keptB hB_wx25) (fun _ => ?_)
            (try simp only [Act.put, zn1, zn2, zn3, zn4, zn5, zn6])
            clear hK K
            refine wpAnyH_ready (rs := [0]) (by kernel_rfl) (by simp) (AllReadyH.cons rfl (fun K hK => ?_) AllReadyH.nil)
            (try simp only [Act.put, zn1, zn2, zn3, zn4, zn5, zn6])
            refine Eq.mpr (if_pos (by rfl)) ?_
            refine wp_valw _ (exec_bs0 34 rfl (.slice (some ⟨wx25.heap.size, 0, none⟩) 0 0) (bsR0 _)) ?_
            (try simp only [Act.put, zn1, zn2, zn3, zn4, zn5, zn6])
            refine hK.out _ _ (keptB (hB_wx25.alloc hB_wx25.size _)) (fun _ => ?_)
            (try simp only [Act.put, zn1, zn2, zn3, zn4, zn5, zn6])
            clear hK K
            have hoE31 := OwnL.empty wx25 wz.heap.size hB_wx25.size
            have hB_wx31 := hB_wx25.alloc hB_wx25.size (.cells #[] 99)
            have hsE31 : wx25.heap.size < (wx25.alloc (.cells #[] 99)).heap.size := by simp
            have hb5_31 := hb5_25.alloc (.cells #[] 99)
            have hb5l_31 := hb5_25.lt
            generalize hw31 : wx25.alloc (.cells #[] 99) = wx31 at hoE31 hB_wx31 hsE31 hb5_31 ⊢
            clear hw31
            refine wpAnyH_ready (rs := [3]) (by kernel_rfl) (by simp) (AllReadyH.cons rfl (fun K hK => ?_) AllReadyH.nil)
            (try simp only [Act.put, zn1, zn2, zn3, zn4, zn5, zn6])
            refine Eq.mpr (if_pos (by rfl)) ?_
            refine wp_appL _ _ rfl wz.heap.size _ 0 [] rfl hoE31 Ar R.length cr xs rfl hxl HAr.out (hxc2 _ hB_wx31) hx1 (by omega) hB_wx31.size ?_
            intro v3_32 wx32 ho3_32 hB3_32 hG3_32
            (try simp only [Act.put, zn1, zn2, zn3, zn4, zn5, zn6])
            have hB_wx32 := hB_wx31.trans hB3_32
            refine hK.out _ _ (keptB hB_wx32) (fun _ => ?_)
            (try simp only [Act.put, zn1, zn2, zn3, zn4, zn5, zn6])
            clear hK K
            rw [Nat.zero_add, List.nil_append] at ho3_32
            have hb5_32 := hb5_31.grown hG3_32 (ne_own (by omega))
            refine wpAnyH_ready (rs := [6]) (by kernel_rfl) (by simp) (AllReadyH.cons rfl (fun K hK => ?_) AllReadyH.nil)
            (try simp only [Act.put, zn1, zn2, zn3, zn4, zn5, zn6])
            refine Eq.mpr (if_pos (by rfl)) ?_
            refine wp_appL _ _ rfl wz.heap.size _ R.length xs rfl ho3_32 (some ⟨wd0.heap.size, 0, none⟩) 1 1 [.slice An1 Lk cn1, .slice An3 16 cn3, .slice An2 16 cn2] rfl hnw (fun h => by cases h) (hnc _ _ hb5_32) hn1 (by omega) hB_wx32.size ?_
            intro v6 W6 ho6 hB6 _
            (try simp only [Act.put, zn1, zn2, zn3, zn4, zn5, zn6])
            have hB_W6 := hB_wx32.trans hB6
            refine hK.out _ _ (keptB hB_W6) (fun _ => ?_)
            (try simp only [Act.put, zn1, zn2, zn3, zn4, zn5, zn6])
            clear hK K
            refine wpAnyH_take (i := 7) (v := .pointer (some ⟨w.heap.size, 0, none⟩)) rfl (by kernel_rfl) (by kernel_rfl) (by kernel_rfl) (fun _ _ _ h => h) (Or.inl ⟨rfl, fun W _ => by go_simp⟩) (keptB hB_W6) ?_
            (try simp only [Act.put, zn1, zn2, zn3, zn4, zn5, zn6])
            refine wpAnyH_ready (rs := [8]) (by kernel_rfl) (by simp) (AllReadyH.cons rfl (fun K hK => ?_) AllReadyH.nil)
            (try simp only [Act.put, zn1, zn2, zn3, zn4, zn5, zn6])
            refine Eq.mpr (if_pos (by rfl)) ?_
            have hv6 : ∃ A6 c6, v6 = .slice A6 (R.length + 1) c6 := by
             rcases ho6.2 with ⟨h1, h2⟩ | ⟨g, c6, cur, h1, -⟩
             ·omega
             ·exact ⟨_, _, h1⟩
            have h1v : v6.oneCell' = true := by obtain ⟨A6, c6, rfl⟩ := hv6; rfl
            have h2v : v6.cells = #[v6] := by obtain ⟨A6, c6, rfl⟩ := hv6; rfl
            refine wp_skipw (exec_stV 34 _ _ rfl ⟨w.heap.size, 0, none⟩ rfl v6 rfl h1v h2v iSRow _ (c4 _ hB_W6) ((H4z.out.below hB_W6 H4z.out.lt).free 0)) ?_
            (try simp only [Act.put, zn1, zn2, zn3, zn4, zn5, zn6])
            have hp := past24 hz1 H4z.out H8z.out hB_W6 ho6
            refine hK.out _ _ ⟨hp.kept, hp.size⟩ (fun _ => ?_)
            (try simp only [Act.put, zn1, zn2, zn3, zn4, zn5, zn6])
            clear hK K
            refine wpAnyH_done (by kernel_rfl) ?_ _
            generalize W6.setCell ⟨w.heap.size, 0, none⟩ v6 = W7 at hp ⊢
            generalize Value.slice (some ⟨wx25.heap.size, 0, none⟩) 0 0 = va
            generalize Value.slice (some ⟨wd0.heap.size, 0, none⟩) 1 1 = vc
            exact kk W7 va v3_32 vc v6 hp
         intro w5 va vb vc v6 hp
         try dsimp only
         obtain ⟨A6, c6, rfl⟩ : ∃ A6 c6, v6 = .slice A6 (R.length + 1) c6 := by
          rcases hp.own.2 with ⟨_, h2⟩ | ⟨g, c6, cur, h1, -⟩
          ·omega
          ·exact ⟨_, _, h1⟩
         have HP := hid hp
         have HN5 := hid (HNz.out.trans hp.bel)
         have Hb5 := hid hp.book
         have Ho5 := hid hp.out
         have hs5 := hp.size
         have HTn : Hid (Reads w B0 (cutA A' 16 c') (n - j - 16) (fun i => F (j + 16 + i))) := hid ((HTe.out.cutA (k := 16) (z := n - j - 16) (cap := c') (by omega) hce).ext (fun i _ => by show F (j + (16 + i)) = F (j + 16 + i); congr 1; omega))
         clear hp hnc hn1 hnw hxc2 c4 c17
         obtain ⟨rl, hrl2⟩ : ∃ rl, rl = R.length + 1 := ⟨_, rfl⟩
         rw [← hrl2] at Hb5 ⊢
         have Hrl := hid hrl2
         clear hrl2
         go_wp2_with fail
         have d0 : ∀ W, Below (w.heap.size + 1) w5 W → ∀ q, q < 2 → W.cell? ((⟨w.heap.size, 0, none⟩ : Addr).add q) = some (bookC (.slice A6 rl c6) (.slice (cutA A' 16 c') (n - j - 16) (c' - 16)) q) := fun W hW q hq => by
          rw [add_zero_off]
          exact ((Hb5.out.below hW (Nat.lt_succ_self _)).cell q).trans (row_get 2 _ q hq)
         refine wp_region_held_drew (S := fun W => Below (w.heap.size + 1) w5 W) (by kernel_rfl) (Below.refl _ _).drew (fun hS0 => ?_)
         refine wpAnyH_take (i := 0) (v := .agg (row 2 (bookC (.slice A6 rl c6) (.slice (cutA A' 16 c') (n - j - 16) (c' - 16))))) rfl (by kernel_rfl) (by kernel_rfl) (by kernel_rfl) (fun _ _ _ h => h) (Or.inl ⟨rfl, fun W hW => exec_loadSt 36 _ rfl ⟨w.heap.size, 0, none⟩ rfl 2 _ (d0 W hW) _ Tryz.underlying36 iRB⟩) hS0 ?_
         (try simp only [Act.put, zn1, zn2, zn3, zn4, zn5, zn6])
         refine wpAnyH_take (i := 2) (v := .slice A' 16 c') rfl (by kernel_rfl) (by kernel_rfl) (by kernel_rfl) (fun _ _ _ h => h) (Or.inl ⟨rfl, fun _ _ => exec_move _ rfl _ rfl⟩) hS0 ?_
         (try simp only [Act.put, zn1, zn2, zn3, zn4, zn5, zn6])
         refine wpAnyH_ready (rs := [1]) (by kernel_rfl) (by simp) (AllReadyH.cons rfl (fun K hK => ?_) AllReadyH.nil)
         (try simp only [Act.put, zn1, zn2, zn3, zn4, zn5, zn6])
         refine Eq.mpr (if_pos (by rfl)) ?_
         refine wp_valw _ (exec_bs0 22 rfl (.slice (some ⟨w5.drew.heap.size, 0, none⟩) 0 0) (bsB0 _)) ?_
         (try simp only [Act.put, zn1, zn2, zn3, zn4, zn5, zn6])
         have hs50 : w.heap.size + 1 ≤ w5.drew.heap.size := by show _ ≤ w5.heap.size; omega
         refine hK.out _ _ (hS0.alloc hs50 _) (fun hS1 => ?_)
         (try simp only [Act.put, zn1, zn2, zn3, zn4, zn5, zn6])
         clear hK K
         have hoE := Mem.Own.empty w5.drew w5.heap.size 5 (fun _ => 0) (Nat.le_refl _)
         have hBE : Below w5.heap.size w5 (w5.drew.alloc (.cells #[] 5)) := (Below.refl _ _).drew.alloc (Nat.le_refl _) _
         have hRY := ((HY.out.below HN5.out).more HN5.out.size).below hBE
         have hbE : w5.heap.size ≤ (w5.drew.alloc (.cells #[] 5)).heap.size := hBE.size
         generalize hwE : w5.drew.alloc (.cells #[] 5) = wE at hoE hBE hRY hbE hS1 ⊢
         clear hwE
         refine wpAnyH_ready (rs := [3]) (by kernel_rfl) (by simp) (AllReadyH.cons rfl (fun K hK => ?_) AllReadyH.nil)
         (try simp only [Act.put, zn1, zn2, zn3, zn4, zn5, zn6])
         refine Eq.mpr (if_pos (by rfl)) ?_
         refine wp_app_gen _ _ 22 rfl w5.heap.size 5 (.int .u8 0) Tryz.underlying22 info_u8 rfl _ 0 _ rfl hoE A' 16 c' _ _ hRY (fun h => by have := HY.out (by omega); obtain ⟨ad, h2, -⟩ := this; rw [h] at h2; cases h2) rfl (by omega) hbE ?_
         intro v8 w8 ho8 hB8
         (try simp only [Act.put, zn1, zn2, zn3, zn4, zn5, zn6])
         have hS2 := hS1.trans (hB8.mono (by omega))
         refine hK.out _ _ hS2 (fun _ => ?_)
         (try simp only [Act.put, zn1, zn2, zn3, zn4, zn5, zn6])
         clear hK K
         try rw [Nat.zero_add] at ho8
         obtain ⟨A8, c8, rfl, hc8, -, -⟩ := ho8.slice'
         have hR8 := ho8.reads.ext (g := fun i => F (j + i)) (fun i hi => by unfold cat; simp)
         have hB58 := hBE.trans hB8
         have d8 := Ho5.out.below hB58 Ho5.out.lt
         refine wpAnyH_ready (rs := [4]) (by kernel_rfl) (by simp) (ready_one rfl rfl (fun K hK => ?_))
         (try simp only [Act.put, zn1, zn2, zn3, zn4, zn5, zn6])
         with_reducible refine wp_store_blk 36 _ _ rfl (w.heap.size + 1) (row 2 (bookC (.slice A6 rl c6) (.slice (cutA A' 16 c') (n - j - 16) (c' - 16)))) rfl rfl 36 _ d8 (iRB' _) (by simp [row_size]) (one2 _ _ _ _ _ _) ?_
         (try simp only [Act.put, zn1, zn2, zn3, zn4, zn5, zn6])
         refine hK.out _ _ (below_setRow' hS2 (Nat.le_refl _) _) (fun hSz => ?_)
         (try simp only [Act.put, zn1, zn2, zn3, zn4, zn5, zn6])
         refine wpAnyH_take (i := 5) (v := .slice A8 16 c8) rfl (by kernel_rfl) (by kernel_rfl) (by kernel_rfl) (fun _ _ _ h => h) (Or.inl ⟨rfl, fun _ _ => exec_assign _ rfl _ rfl⟩) hSz ?_
         (try simp only [Act.put, zn1, zn2, zn3, zn4, zn5, zn6])
         refine wpAnyH_take (i := 6) (v := .bool true) rfl (by kernel_rfl) (by kernel_rfl) (by kernel_rfl) (fun _ _ _ h => h) (Or.inl ⟨rfl, fun _ _ => exec_assign _ rfl _ rfl⟩) hSz ?_
         (try simp only [Act.put, zn1, zn2, zn3, zn4, zn5, zn6])
         refine wpAnyH_done (by kernel_rfl) ?_ _
         clear hK
         have hB9 := below_setRow' ((HN5.out.trans (hB58.mono (by have := HN5.out.size; omega)))) (Nat.le_succ w.heap.size) (row 2 (bookC (.slice A6 rl c6) (.slice (cutA A' 16 c') (n - j - 16) (c' - 16))))
         have hk9 : ∀ g, g < wz.heap.size → w.heap.size + 1 < g → (w8.setRow (w.heap.size + 1) (row 2 (bookC (.slice A6 rl c6) (.slice (cutA A' 16 c') (n - j - 16) (c' - 16))))).heap[g]? = wz.heap[g]? := fun g hg hlo => by
          rw [setRow_other w8 (w.heap.size + 1) g _ (by omega), hB58.block g (by omega)]
          exact HP.out.kept g hg (by omega)
         have hs9 : wz.heap.size ≤ (w8.setRow (w.heap.size + 1) (row 2 (bookC (.slice A6 rl c6) (.slice (cutA A' 16 c') (n - j - 16) (c' - 16))))).heap.size := by
          have := hB58.size
          simp
          omega
         have hbz : Below w.heap.size wz (w8.setRow (w.heap.size + 1) (row 2 (bookC (.slice A6 rl c6) (.slice (cutA A' 16 c') (n - j - 16) (c' - 16))))) := below_setRow' (HP.out.bel.trans (hB58.mono (by have := HN5.out.size; omega))) (Nat.le_succ _) _
         have ho9 : OwnL (w8.setRow (w.heap.size + 1) (row 2 (bookC (.slice A6 rl c6) (.slice (cutA A' 16 c') (n - j - 16) (c' - 16))))) wz.heap.size (.slice A6 (R.length + 1) c6) (R.length + 1) _ := OwnL.kept HP.out.own (fun g hg hl => by rw [setRow_other w8 (w.heap.size + 1) g _ (by omega)]; exact hB58.block g hl)
         have h89 := d8.setRow (row 2 (bookC (.slice A6 rl c6) (.slice (cutA A' 16 c') (n - j - 16) (c' - 16))))
         have hR9 : Reads (w8.setRow (w.heap.size + 1) (row 2 (bookC (.slice A6 rl c6) (.slice (cutA A' 16 c') (n - j - 16) (c' - 16))))) (w8.setRow (w.heap.size + 1) (row 2 (bookC (.slice A6 rl c6) (.slice (cutA A' 16 c') (n - j - 16) (c' - 16))))).heap.size A8 16 (fun i => F (j + i)) := reads_kept (g0 := w.heap.size + 1) hR8 (fun q h => by have := own_lo ho8 q h; omega) (fun g _ hlo => setRow_other w8 (w.heap.size + 1) g _ (by omega)) (by simp)
         generalize w8.setRow (w.heap.size + 1) (row 2 (bookC (.slice A6 rl c6) (.slice (cutA A' 16 c') (n - j - 16) (c' - 16)))) = w9 at *
         have hall : ∀ W, Agree B0 w w9 W → RowsAt W W.heap.size A6 Lk (R ++ [(mk true (strF Lk key) x fun i => F (j + i))]) := fun W ha => by
          have hkW : ∀ g, g < wz.heap.size → w.heap.size + 1 < g → W.heap[g]? = wz.heap[g]? := fun g hg hlo => (ha.block g (by omega) (.inr (by omega))).trans (hk9 g hg hlo)
          have hsW : wz.heap.size ≤ W.heap.size := Nat.le_trans hs9 ha.size
          have hbW : Below B0 wz W := ⟨ha.os.trans hbz.os, ha.tape.trans hbz.tape, ha.output.trans hbz.output, hsW, fun g hg => (ha.block g (by have := HNz.out.size; omega) (.inl hg)).trans (hbz.block g (by omega))⟩
          have hnr : RowC W W.heap.size Lk (mk true (strF Lk key) x fun i => F (j + i)) (rowC (.slice An1 Lk cn1) (.slice An3 16 cn3) (.slice An2 16 cn2)) := ⟨⟨An1, cn1, key, rfl, reads_kept (g0 := w.heap.size + 1) HOkz.out (fun q h => by have := hlo1 q h; have := hltz.out; omega) hkW hsW, Hkb.out, rfl⟩, ⟨_, _, rfl, hcn3, reads_kept (g0 := w.heap.size + 1) HOyz.out (fun q h => by have := hlo3 q h; have := hltz.out; omega) hkW hsW⟩, ⟨_, _, rfl, hcn2, reads_kept (g0 := w.heap.size + 1) HOxz.out (fun q h => by have := hlo2 q h; have := hltz.out; omega) hkW hsW⟩⟩
          have hrows := rows_new hxl (fun q hq => ((Hxr.out q hq).below hbW).more (by have := HNz.out.size; omega)) hnr
          have hoW : OwnL W wz.heap.size (.slice A6 (R.length + 1) c6) (R.length + 1) _ := OwnL.kept ho9 (fun g hg hl => ha.block g hl (.inr (by have := HNz.out.size; omega)))
          obtain ⟨A9, c9, hv9, hRows⟩ := OwnL.rows (R := R ++ [(mk true (strF Lk key) x fun i => F (j + i))]) hoW (by simp) hrows (Nat.le_refl _)
          injection hv9 with hA9 hL9 hC9
          subst hA9
          exact hRows
         have hL9 : R.length + 1 = (R ++ [(mk true (strF Lk key) x fun i => F (j + i))]).length := by simp
         have hA6 : A6 = none → (R ++ [(mk true (strF Lk key) x fun i => F (j + i))]).length = 0 ∧ c6 = 0 := fun h => by obtain ⟨ad, h2, -⟩ := hall w9 (Agree.refl _ _ _) R.length (by simp); rw [h] at h2; cases h2
         have hR9W : ∀ W, Agree B0 w w9 W → Reads W W.heap.size A8 16 (fun i => F (j + i)) := fun W ha => reads_kept (g0 := w.heap.size) hR9 (fun q h => by have := own_lo ho8 q h; have := HN5.out.size; omega) (fun g hg hlo => ha.block g hg (.inr (by omega))) ha.size
         go_wp2_with fail
         refine ret_row3 Tryz.results35 rfl (w.heap.size + 1) rfl _ rfl _ rfl 36 2 _ h89 _ Tryz.underlying36 iRB ⟨hB9, A6, c6, cutA A' 16 c', c' - 16, _, true, ?_, (fun W ha => ⟨hall W ha, ?_⟩), by omega, hA6, .inl ⟨_, A8, c8, rfl, rfl, rfl, hR9W⟩⟩
         ·rw [row2, Hrl.out, hL9, Nat.sub_sub]
          rfl
         ·rw [← Nat.sub_sub]
          exact ha.reads hB0 hB9 HTn.out
       ·have Htk : Hid (hit (!bk) R (strF Lk key) (fun i => F (e + i)) = true) := hid htk
        clear htk
        go_wp2_with fail
        refine ⟨⟨e + 16, cutA A' 16 c', c' - 16, by omega, by omega, hid ?_, ?_, hid ?_, by omega, H8.out, HB.out⟩, ?_⟩
        ·rw [← drawTo_old (by omega) Htk.out]; exact HD.out
        ·rw [show n - (e + 16) = n - e - 16 by omega]; exact H4.out
        ·rw [show n - (e + 16) = n - e - 16 by omega]
         exact (HTe.out.cutA (k := 16) (z := n - e - 16) (cap := c') (by omega) hce).ext (fun i _ => by show F (e + (16 + i)) = F (e + 16 + i); congr 1; omega)
        ·rw [Hlen.out]
         have : tlen wt w.heap.size = n - e - 16 := by
          unfold tlen
          rw [show wt.cell? ⟨w.heap.size, 1, none⟩ = some (.slice (cutA A' 16 c') (n - e - 16) (c' - 16)) from H4.out.cell 1]
         rw [this]; omega
    ·exfalso
     have h := HD.out
     rw [drawTo_end (by omega)] at h
     cases h
end Go.Proofs.YtomeeebiijmnmaaGreatDoor.Bk
