/-
 Book Book2
-/
import Derived.Test.YteapfdnjbgonmaaGreatDoorBookX
import Derived.Test.YteapfdnjbgonmaaGreatDoorTapeX
import Derived.Test.YteapfdnjbgonmaaGreatDoorDesY
import Derived.Test.YteapfdnjbgonmaaGreatDoorConv
namespace Go.Proofs.YteapfdnjbgonmaaGreatDoor.Bk
open Mem Go.ChangeShapes Go.WideShapes Go.ChangeAt Go.RowKit
open Des (exec_arr exec_loadR wpl_build)
structure Pl where
 gb : Nat
 gt : Nat
 gf : Nat
 gk : Nat
 base : Nat
 v : Value
 n : Nat
 F : Nat → Nat
def Pl.S (p : Pl) : List Nat := [p.gt, p.gf, p.gk]
def Pl.m (p : Pl) (bk : Bool) : Nat := if bk then p.gk else p.gf
structure BookAt (w : World) (p : Pl) (d : Nat) (L : List Rw) : Prop where
 book : Blk w p.gb 214 #[.pointer (some ⟨p.gt, 0, none⟩), .map (some p.gf), .map (some p.gk)]
 tape : Blk w p.gt 246 #[p.v, .int .i64 (d : Int)]
 own : Own w p.base 5 1 p.v p.n p.F
 maps : ∀ bk, MapAt w (p.m bk) bk L
 ne : p.gf ≠ p.gk
 inv : Inv p.F p.n L d
 lo : p.base ≤ p.gb ∧ ∀ g ∈ p.S, p.base ≤ g
section
variable {w w' : World} {p : Pl} {d : Nat} {L : List Rw}
theorem BookAt.keep (h : BookAt w p d L) (hB : Below w.heap.size w w') : BookAt w' p d L :=
 ⟨h.book.below hB h.book.lt, h.tape.below hB h.tape.lt, h.own.below hB (Nat.le_refl _), fun bk => (hB.block _ (h.maps bk).lt).trans (h.maps bk), h.ne, h.inv, h.lo⟩
theorem m_mem (p : Pl) (bk : Bool) : p.m bk ∈ p.S := by cases bk <;> simp [Pl.m, Pl.S]
theorem gt_mem (p : Pl) : p.gt ∈ p.S := by simp [Pl.S]
theorem m_ne {p : Pl} (h : p.gf ≠ p.gk) (bk : Bool) : p.m bk ≠ p.m (!bk) := by cases bk <;> simp [Pl.m, h, h.symm]
theorem BookAt.free (h : BookAt w p d L) {g : Nat} {t : TypeId} {cs : Array Value} (hb : Blk w g t cs) (ht : t ≠ 246) : g ∉ p.S := by
 intro hm
 simp only [Pl.S, List.mem_cons, List.not_mem_nil, or_false] at hm
 rcases hm with rfl | rfl | rfl
 ·exact hb.ne h.tape ht rfl
 ·exact (h.maps false).ne_blk hb rfl
 exact (h.maps true).ne_blk hb rfl
theorem BookAt.tapeAt (h : BookAt w p d L) (hk : Kept p.gt w w') {e : Nat} (ht : Blk w' p.gt 246 #[p.v, .int .i64 (e : Int)]) (hi : Inv p.F p.n L e) : BookAt w' p e L := by
 have hne : p.gb ≠ p.gt := h.tape.ne h.book (by decide)
 refine ⟨hk.blk h.book hne, ht, hk.own h.tape (by decide) h.own, fun bk => ?_, h.ne, hi, h.lo⟩
 exact (hk.block _ (h.maps bk).lt ((h.maps bk).ne_blk h.tape)).trans (h.maps bk)
end
theorem kept_setRow {g k : Nat} {a w : World} (h : Kept g a w) (hk : a.heap.size ≤ k) (cs : Array Value) : Kept g a (w.setRow k cs) :=
 ⟨h.os, h.tape, h.output, (by simpa using h.size), fun j hj hg => (setRow_other w k j cs (by omega)).trans (h.block j hj hg)⟩
theorem z16 : (Tryz.prog.info? 137).map (·.zero) = some (some (.agg (row 16 (b8 fun _ => 0)))) := by kernel_rfl
theorem i16 : (Tryz.prog.info? 137).map (·.size) = some 16 := by kernel_rfl
theorem i16' (f : Nat → Value) : (Tryz.prog.info? 137).map (·.size) = some (row 16 f).size := by rw [row_size]; exact i16
theorem built16 : Tryz.prog.built 137 [] = some (row 16 (b8 fun _ => 0)) := by kernel_rfl
theorem take16 (p : Pl) (d : Nat) (L : List Rw) (w : World) (h : BookAt w p d L) (hd : d + 16 ≤ p.n) :
  Calls Tryz.prog 189 #[.pointer (some ⟨p.gt, 0, none⟩), .int .i64 16] w fun e w' => ∃ g c, e = .returned (.tuple #[.slice (some ⟨g, 0, none⟩) 16 c, .nilIface]) ∧ (∀ i, i < 16 → w'.cell? ((⟨g, 0, none⟩ : Addr).add i) = some (.int .u8 ((p.F (d + i) : Nat) : Int))) ∧ Kept p.gt w w' ∧ Blk w' p.gt 246 #[p.v, .int .i64 ((d + 16 : Nat) : Int)] := by
 refine (take_ok p.gt _ p.v p.n d 16 p.F w h.tape h.own hd (by have := h.inv.hn; omega)).mono ?_
 rintro e w' ⟨vx, rfl, ho, hk, hb⟩
 obtain ⟨A, c, rfl, hc, -, hA⟩ := ho.slice'
 obtain ⟨ad, rfl, _, hcell⟩ := ho.reads (by omega)
 obtain ⟨g, rfl⟩ := hA ad rfl
 exact ⟨g, c, rfl, hcell, hk, hb⟩
set_option maxRecDepth 100000 in
set_option maxHeartbeats 1000000 in
theorem draw_ok (p : Pl) (d : Nat) (L : List Rw) (w : World) (h : BookAt w p d L) (hd : d + 16 ≤ p.n) :
  Calls Tryz.prog 180 #[.pointer (some ⟨p.gb, 0, none⟩)] w fun e w' => e = .returned (.tuple #[.agg (row 16 (b8 fun i => p.F (d + i))), .nilIface]) ∧ Kept p.gt w w' ∧ Blk w' p.gt 246 #[p.v, .int .i64 ((d + 16 : Nat) : Int)] := by
 have hB1 : Below w.heap.size w (w.alloc (.cells (row 16 (b8 fun _ => 0)) 137)) := (Below.refl _ _).alloc (Nat.le_refl _) _
 have H1 := hid (h.keep hB1)
 have hz := Blk.fresh w 137 (row 16 (b8 fun _ => 0))
 have Hz := hid hz
 have hK1 := hid (Kept.of (g := p.gt) hB1)
 have hlt := hid h.tape.lt
 have hc0 : (w.alloc (.cells (row 16 (b8 fun _ => 0)) 137)).cell? ⟨p.gb, 0, none⟩ = some (.pointer (some ⟨p.gt, 0, none⟩)) := H1.out.book.cell 0
 clear h hB1 hz
 go_enter Tryz.func180, Tryz.ntmps180
 go_wp2_with (first
  | (with_reducible refine wpl_alloc rfl 137 rfl _ z16 ?_)
  | (go_at_call 189; refine (take16 p d L _ H1.out hd).mono ?_; rintro e w1 ⟨g, c, rfl, hcell, hk, hb⟩; have Hc := hid hcell; have Hz1 := hid (hk.blk Hz.out (by have := hlt.out; omega)); have Hk := hid hk; have Hb := hid hb; clear hcell hk hb)
  | (with_reducible refine wpl_val rfl _ (exec_arr 137 _ rfl ⟨g, 0, none⟩ 16 c rfl 16 5 Tryz.underlying137 (Nat.le_refl _)) ?_)
  | (with_reducible refine wpl_val rfl _ (exec_loadR 137 _ rfl ⟨g, 0, none⟩ rfl 16 _ Hc.out 5 Tryz.underlying137 i16) ?_)
  | (with_reducible refine wpl_store rfl 137 _ _ rfl _ _ rfl rfl 137 _ Hz1.out (i16' _) (by simp [row_size]) (one_b8 _ _) ?_))
 exact ret_row_tmp Tryz.results180 rfl w.heap.size rfl _ rfl 137 16 _ (Hz1.out.setRow _) 5 Tryz.underlying137 i16 ⟨rfl, kept_setRow (hK1.out.trans Hk.out) (Nat.le_refl _) _, Hb.out.otherRow _ _ (by have := hlt.out; omega)⟩
theorem take_less (p : Pl) (d : Nat) (L : List Rw) (w : World) (h : BookAt w p d L) (hd : p.n < d + 16) :
  Calls Tryz.prog 189 #[.pointer (some ⟨p.gt, 0, none⟩), .int .i64 16] w fun e w' => ∃ k x, e = .returned (.tuple #[.slice none 0 0, .iface 81 (.pointer (some ⟨k, 0, none⟩))]) ∧ Blk w' k 84 #[x, .iface 56 (.int .i64 13)] ∧ w.heap.size ≤ k ∧ Below w.heap.size w w' := by
 obtain ⟨A, c, hv, -⟩ := h.own.slice'
 have ht := h.tape
 rw [hv] at ht
 refine (take_few p.gt A p.n c d 16 w ht h.inv.hd (by have := h.inv.hn; omega) (by omega)).mono ?_
 rintro e w' ⟨k, rfl, hF, hk, hB⟩
 exact ⟨k, _, rfl, hF, hk, hB⟩
set_option maxRecDepth 100000 in
set_option maxHeartbeats 1000000 in
theorem draw_few (p : Pl) (d : Nat) (L : List Rw) (w : World) (h : BookAt w p d L) (hd : p.n < d + 16) :
  Calls Tryz.prog 180 #[.pointer (some ⟨p.gb, 0, none⟩)] w fun e w' => ∃ k x, e = .returned (.tuple #[.agg (row 16 (b8 fun _ => 0)), .iface 81 (.pointer (some ⟨k, 0, none⟩))]) ∧ Blk w' k 84 #[x, .iface 56 (.int .i64 13)] ∧ w.heap.size ≤ k ∧ Below w.heap.size w w' := by
 have hB1 : Below w.heap.size w (w.alloc (.cells (row 16 (b8 fun _ => 0)) 137)) := (Below.refl _ _).alloc (Nat.le_refl _) _
 have H1 := hid (h.keep hB1)
 have hz := Blk.fresh w 137 (row 16 (b8 fun _ => 0))
 have Hz := hid hz
 have HB1 := hid hB1
 have hc0 : (w.alloc (.cells (row 16 (b8 fun _ => 0)) 137)).cell? ⟨p.gb, 0, none⟩ = some (.pointer (some ⟨p.gt, 0, none⟩)) := H1.out.book.cell 0
 clear h hB1 hz
 go_enter Tryz.func180, Tryz.ntmps180
 go_wp2_with (first
  | (with_reducible refine wpl_alloc rfl 137 rfl _ z16 ?_)
  | (go_at_call 189; refine (take_less p d L _ H1.out hd).mono ?_; rintro e w1 ⟨k, x, rfl, hF, hk, hB⟩; have HF := hid hF; have Hz1 := hid (Hz.out.below hB Hz.out.lt); have HB := hid hB; have Hk := hid hk; clear hF hB hk)
  | (with_reducible refine wpl_build0 rfl 137 rfl _ built16 ?_)
  | (with_reducible refine wpl_store rfl 137 _ _ rfl _ _ rfl rfl 137 _ Hz1.out (i16' _) (by simp [row_size]) (one_b8 _ _) ?_))
 have hk1 := Hk.out
 simp at hk1
 exact ret_row_tmp Tryz.results180 rfl w.heap.size rfl _ rfl 137 16 _ (Hz1.out.setRow _) 5 Tryz.underlying137 i16 ⟨k, x, rfl, HF.out.otherRow _ _ (by omega), by omega, below_setRow' (HB1.out.trans (HB.out.mono HB1.out.size)) (Nat.le_refl _) _⟩
section
variable {P : Program} {ops : Array Oper} {rest : List Oper} {o : Oper} {a : Act} {w : World} {Q : Exit → Act → World → Prop}
theorem exec_lookup (t : TypeId) (m x : Operand) (ho : o.op = .lookup t m x true) (vm vx v : Value) (hm : a.eval m = vm) (hx : a.eval x = vx) (hr : (Instr.lookup t vm vx true).run P w = .ok v w) : (execOp a.eval o).run P w = .ok (.value v) w := by
 unfold execOp
 simp [ho, hm, hx, hr]
theorem wpl_build2 (hgd : o.guard = none) (ty : TypeId) (x y : Operand) (ho : o.op = .build ty #[(0, x), (1, y)]) (vx vy : Value) (hx : a.eval x = vx) (hy : a.eval y = vy) (cs : Array Value) (hb : P.built ty [(0, vx), (1, vy)] = some cs)
  (h : wpList P ops Q rest (a.put o.dst (.agg cs)) w) : wpList P ops Q (o :: rest) a w := by
 subst hx hy
 exact wpl_build hgd ty [(0, x), (1, y)] ho cs hb h
theorem wpl_put (hgd : o.guard = none) (t : TypeId) (m x y : Operand) (ho : o.op = .mapUpdate t m x y) (vm vx vy : Value) (hm : a.eval m = vm) (hx : a.eval x = vx) (hy : a.eval y = vy) (w' : World) (hr : (Instr.mapUpdate t vm vx vy).run P w = .ok () w')
  (h : wpList P ops Q rest (a.put o.dst undef) w') : wpList P ops Q (o :: rest) a w := by
 refine wpList_plain hgd fun _ hK => ?_
 unfold Oper.wp execOp
 simp only [ho, hm, hx, hy, hr, Sem.run_bind, Sem.run_pure, Result.andThen_ok]
 exact hK _ _ h
end
theorem builtSide (s : ByteArray) (f : Nat → Nat) : Tryz.prog.built 183 [(0, .string s), (1, .agg (row 16 (b8 f)))] = some (sideC s f) := by kernel_rfl
def posOf (w : World) (g : Nat) : Nat := match w.cell? ⟨g, 1, none⟩ with | some (.int _ z) => z.toNat | _ => 0
theorem BookAt.pos {w : World} {p : Pl} {d : Nat} {L : List Rw} (h : BookAt w p d L) : posOf w p.gt = d := by
 unfold posOf
 rw [h.tape.cell 1]
 simp
theorem hit_find {bk : Bool} {L : List Rw} {s : ByteArray} {f : Nat → Nat} (h : hit bk L s f = true) : ∃ r, L.find? (hitR bk s f) = some r := by
 cases hq : L.find? (hitR bk s f) with
 | none => rw [find_none_hit hq] at h; cases h
 | some r => exact ⟨r, rfl⟩
def DrawOut (p : Pl) (tk : (Nat → Nat) → Bool) (d : Nat) (w : World) (e : Ending) (w' : World) : Prop :=
 Kept p.gt w w' ∧ ((∃ j, drawTo p.F p.n tk d = (true, j) ∧ e = .returned (.tuple #[.agg (row 16 (b8 fun i => p.F (j + i))), .nilIface]) ∧ Blk w' p.gt 246 #[p.v, .int .i64 ((j + 16 : Nat) : Int)]) ∨
 (∃ j k x y, drawTo p.F p.n tk d = (false, j) ∧ e = .returned (.tuple #[y, .iface 81 (.pointer (some ⟨k, 0, none⟩))]) ∧ y = .agg (row 16 (b8 fun _ => 0)) ∧ Blk w' k 84 #[x, .iface 56 (.int .i64 13)] ∧ w.heap.size ≤ k ∧ Blk w' p.gt 246 #[p.v, .int .i64 (j : Int)]))
set_option maxRecDepth 100000 in
set_option maxHeartbeats 2000000 in
theorem drawNew_any (p : Pl) (d : Nat) (L : List Rw) (bk : Bool) (s : ByteArray) (hs : s.size ≤ 32) (w : World) (h : BookAt w p d L) :
  Calls Tryz.prog 157 #[.pointer (some ⟨p.gb, 0, none⟩), .string s, .map (some (p.m bk))] w (DrawOut p (hit bk L s) d w) := by
 have hB1 : Below w.heap.size w (w.alloc (.cells (row 16 (b8 fun _ => 0)) 137)) := (Below.refl _ _).alloc (Nat.le_refl _) _
 have H1 := hid (h.keep hB1)
 have Hz := hid (Blk.fresh w 137 (row 16 (b8 fun _ => 0)))
 have HB1 := hid hB1
 have hlt := hid h.tape.lt
 clear h hB1
 go_enter Tryz.func157, Tryz.ntmps157
 go_wp2_with (first
  | (with_reducible refine wpl_alloc rfl 137 rfl _ z16 ?_))
 go_loopw [9] (fun _ wr => ∃ e : Nat, BookAt wr p e L ∧ drawTo p.F p.n (hit bk L s) d = drawTo p.F p.n (hit bk L s) e ∧ Kept p.gt w wr ∧ Blk wr w.heap.size 137 (row 16 (b8 fun _ => 0))) (fun _ wr => p.n - posOf wr p.gt)
 case atStart => exact ⟨d, H1.out, rfl, Kept.of HB1.out, Hz.out⟩
 case round =>
  clear H1 Hz HB1
  obtain ⟨e, hbk, hdr, hkw, hz⟩ := hrel
  have Hbk := hid hbk
  have Hdr := hid hdr
  have Hkw := hid hkw
  have Hz := hid hz
  clear hbk hdr hkw hz
  by_cases h16 : e + 16 ≤ p.n
  ·have hI : Inv p.F p.n L (e + 16) := ⟨h16, Hbk.out.inv.hn, Hbk.out.inv.hF, by have := Hbk.out.inv.rows; omega, Hbk.out.inv.good, Hbk.out.inv.uniq⟩
   have HI := hid hI
   have Hy : Hid (∀ i, i < 16 → p.F (e + i) < 256) := hid fun i hi => Hbk.out.inv.hF _ (by omega)
   clear hI
   cases ht : hit bk L s (fun i => p.F (e + i))
   ·have Ht := hid ht
    clear ht
    go_wp2_with (first
     | (go_at_call 180; refine (draw_ok p e L _ Hbk.out h16).mono ?_; rintro e' w1 ⟨rfl, hk, hb⟩; have Hb1 := hid (Hbk.out.tapeAt hk hb HI.out); have Hk := hid hk; have Hz1 := hid (hk.blk Hz.out (by have := hlt.out; omega)); have Hb2 := hid (Hb1.out.keep ((Below.refl _ _).alloc (Nat.le_refl _) (.cells (row 16 (b8 fun i => p.F (e + i))) 137))); clear hk hb)
     | (with_reducible refine wpl_alloc rfl 137 rfl _ z16 ?_)
     | (with_reducible refine wpl_store_new rfl 137 _ _ rfl _ _ 16 _ rfl rfl 137 i16 (row_size _ _) ?_)
     | (with_reducible refine wpl_load rfl 137 _ rfl _ rfl 137 _ (Blk.fresh w1 137 (row 16 (b8 fun i => p.F (e + i)))) 16 5 Tryz.underlying137 (i16' _) ?_)
     | (with_reducible refine wpl_load rfl 137 _ rfl _ rfl 137 _ ((Blk.fresh w1 137 (row 16 (b8 fun i => p.F (e + i)))).alloc _) 16 5 Tryz.underlying137 (i16' _) ?_)
     | (with_reducible refine wpl_build2 rfl 183 _ _ rfl (.string s) (.agg (row 16 (b8 fun i => p.F (e + i)))) rfl rfl _ (builtSide s (fun i => p.F (e + i))) ?_)
     | (with_reducible refine wpl_val rfl _ (exec_lookup 212 _ _ rfl (.map (some (p.m bk))) (.agg (sideC s (fun i => p.F (e + i)))) _ rfl rfl (look_miss (Hb2.out.maps bk) HI.out.good hs Hy.out Ht.out)) ?_)
     | (with_reducible refine wpl_store rfl 137 _ _ rfl _ _ rfl rfl 137 _ ((Hz1.out.alloc _).alloc _) (i16' _) (by simp [row_size]) (one_b8 _ _) ?_))
    refine ret_row_tmp Tryz.results157 rfl w.heap.size rfl _ rfl 137 16 _ (((Hz1.out.alloc _).alloc _).setRow _) 5 Tryz.underlying137 i16 ⟨?_, .inl ⟨e, ?_, rfl, ?_⟩⟩
    ·exact kept_setRow (Hkw.out.trans (Hk.out.trans (Kept.of (((Below.refl _ _).alloc (Nat.le_refl _) _).alloc (by simp) _)))) (Nat.le_refl _) _
    ·rw [Hdr.out]; exact drawTo_new h16 Ht.out
    exact ((Hb1.out.tape.alloc _).alloc _).otherRow _ _ (by have := hlt.out; omega)
   have Ht := hid ht
   obtain ⟨r, hr⟩ := hit_find ht
   have Hr := hid hr
   clear ht hr
   go_wp2_with (first
    | (go_at_call 180; refine (draw_ok p e L _ Hbk.out h16).mono ?_; rintro e' w1 ⟨rfl, hk, hb⟩; have Hb1 := hid (Hbk.out.tapeAt hk hb HI.out); have Hk := hid hk; have Hz1 := hid (hk.blk Hz.out (by have := hlt.out; omega)); have Hb2 := hid (Hb1.out.keep ((Below.refl _ _).alloc (Nat.le_refl _) (.cells (row 16 (b8 fun i => p.F (e + i))) 137))); clear hk hb)
    | (with_reducible refine wpl_alloc rfl 137 rfl _ z16 ?_)
    | (with_reducible refine wpl_store_new rfl 137 _ _ rfl _ _ 16 _ rfl rfl 137 i16 (row_size _ _) ?_)
    | (with_reducible refine wpl_load rfl 137 _ rfl _ rfl 137 _ (Blk.fresh w1 137 (row 16 (b8 fun i => p.F (e + i)))) 16 5 Tryz.underlying137 (i16' _) ?_)
    | (with_reducible refine wpl_build2 rfl 183 _ _ rfl (.string s) (.agg (row 16 (b8 fun i => p.F (e + i)))) rfl rfl _ (builtSide s (fun i => p.F (e + i))) ?_)
    | (with_reducible refine wpl_val rfl _ (exec_lookup 212 _ _ rfl (.map (some (p.m bk))) (.agg (sideC s (fun i => p.F (e + i)))) _ rfl rfl (look_hit (Hb2.out.maps bk) HI.out.good HI.out.uniq hs Hy.out Hr.out)) ?_))
   go_round
   case rel =>
    refine ⟨e + 16, Hb1.out.keep (((Below.refl _ _).alloc (Nat.le_refl _) _).alloc (by simp) _), ?_, Hkw.out.trans (Hk.out.trans (Kept.of (((Below.refl _ _).alloc (Nat.le_refl _) _).alloc (by simp) _))), (Hz1.out.alloc _).alloc _⟩
    rw [Hdr.out]; exact drawTo_old h16 Ht.out
   case measure =>
    have e1 := (Hb1.out.keep (((Below.refl _ _).alloc (Nat.le_refl _) (.cells (row 16 (b8 fun i => p.F (e + i))) 137)).alloc (by simp) (.cells (row 16 (b8 (fr (!bk) r))) 137))).pos
    have e2 := Hbk.out.pos
    rw [e1, e2]; omega
  go_wp2_with (first
   | (go_at_call 180; refine (draw_few p e L _ Hbk.out (by omega)).mono ?_; rintro e' w1 ⟨k, x, rfl, hF, hk, hB⟩; have HF := hid hF; have Hz1 := hid (Hz.out.below hB Hz.out.lt); have Hb1 := hid (Hbk.out.keep hB); have HB := hid hB; have Hks := hid hk; clear hF hB hk)
   | (with_reducible refine wpl_alloc rfl 137 rfl _ z16 ?_)
   | (with_reducible refine wpl_store_new rfl 137 _ _ rfl _ _ 16 _ rfl rfl 137 i16 (row_size _ _) ?_)
   | (with_reducible refine wpl_load rfl 137 _ rfl _ rfl 137 _ (Blk.fresh w1 137 (row 16 (b8 fun _ => 0))) 16 5 Tryz.underlying137 (i16' _) ?_)
   | (with_reducible refine wpl_store rfl 137 _ _ rfl _ _ rfl rfl 137 _ (Hz1.out.alloc _) (i16' _) (by simp [row_size]) (one_b8 _ _) ?_))
  refine ret_row_tmp Tryz.results157 rfl w.heap.size rfl _ rfl 137 16 _ ((Hz1.out.alloc _).setRow _) 5 Tryz.underlying137 i16 ⟨?_, .inr ⟨e, k, x, _, ?_, rfl, rfl, ?_, ?_, ?_⟩⟩
  ·exact kept_setRow (Hkw.out.trans ((Kept.of HB.out).trans (Kept.of ((Below.refl _ _).alloc (Nat.le_refl _) _)))) (Nat.le_refl _) _
  ·rw [Hdr.out]; exact drawTo_end (by omega)
  ·exact (HF.out.alloc _).otherRow _ _ (by have := Hks.out; have := Hz.out.lt; omega)
  ·have := Hks.out; have := Hkw.out.size; omega
  exact (Hb1.out.tape.alloc _).otherRow _ _ (by have := hlt.out; omega)
end Go.Proofs.YteapfdnjbgonmaaGreatDoor.Bk
namespace Go.Proofs.YteapfdnjbgonmaaGreatDoor.Bk
open Mem Go.ChangeShapes Go.WideShapes Go.ChangeAt Go.RowKit
open Go.ChangeMaps (setBlock)
section
variable {P : Program} {ops : Array Oper} {rest : List Oper} {o : Oper} {a : Act} {w : World} {Q : Exit → Act → World → Prop}
theorem wpl_loadS (hgd : o.guard = none) (ty : TypeId) (x : Operand) (ho : o.op = .load ty x) (g : Nat) (hx : a.eval x = .pointer (some ⟨g, 0, none⟩)) (t : TypeId) (cs : Array Value) (hg : Blk w g t cs)
  (fs : Array Field) (hu : P.underlying ty = some (.struct fs)) (hi : (P.info? ty).map (·.size) = some cs.size)
  (h : wpList P ops Q rest (a.put o.dst (.agg cs)) w) : wpList P ops Q (o :: rest) a w :=
 wpList_load_row hgd ty x ho g hx t cs (0, 0) _ hg hu rfl hi h
theorem wpl_ldstr (hgd : o.guard = none) (ty : TypeId) (x : Operand) (ho : o.op = .load ty x) (p : Addr) (hx : a.eval x = .pointer (some p)) (hu : P.underlying ty = some .string) (v : Value) (hv : w.cell? p = some v)
  (h : wpList P ops Q rest (a.put o.dst v) w) : wpList P ops Q (o :: rest) a w := by
 refine wpList_plain hgd fun _ hK => ?_
 have hr : (Instr.loadAt ty (.pointer (some p))).run P w = .ok v w := by
  simp [Instr.loadAt, Instr.sureAddr, loadVar, isAgg, Sem.run_bind, run_underlying hu, hv]
 unfold Oper.wp execOp
 simp only [ho, hx, hr, Sem.run_bind, Sem.run_pure, Result.andThen_ok]
 exact hK _ _ h
end
theorem iSide (s : ByteArray) (f : Nat → Nat) : (Tryz.prog.info? 183).map (·.size) = some (sideC s f).size := by unfold sideC; rw [row_size]; kernel_rfl
theorem mk_swap (bk : Bool) (s : ByteArray) (x y : Nat → Nat) : mk (!bk) s y x = mk bk s x y := by cases bk <;> rfl
def AskOut (p : Pl) (d : Nat) (L : List Rw) (bk : Bool) (s : ByteArray) (f : Nat → Nat) (w : World) (e : Ending) (w' : World) : Prop :=
 KeptS p.S w w' ∧ ((∃ y L' d', askL p.F p.n s L d bk f = (some y, L', d') ∧ e = .returned (.tuple #[.agg (row 16 (b8 y)), .nilIface]) ∧ BookAt w' p d' L') ∨
 (∃ L' d' k x, askL p.F p.n s L d bk f = (none, L', d') ∧ e = .returned (.tuple #[.agg (row 16 (b8 fun _ => 0)), .iface 81 (.pointer (some ⟨k, 0, none⟩))]) ∧ Blk w' k 84 #[x, .iface 56 (.int .i64 13)] ∧ w.heap.size ≤ k ∧ BookAt w' p d' L'))
def putM (w : World) (b : Nat) (bk : Bool) (L : List Rw) : World := setBlock w b (.map (ents bk L) L.length)
theorem blkP {w : World} {b g : Nat} {bk : Bool} {L : List Rw} {t : TypeId} {cs : Array Value} (h : Blk w b t cs) (hg : MapAt w g bk L) (bk' : Bool) (L' : List Rw) : Blk (putM w g bk' L') b t cs := blk_other h hg _
theorem mapP {w : World} {b g : Nat} {bk bk' : Bool} {L L' : List Rw} (h : MapAt w b bk L) (hg : MapAt w g bk' L') (hne : b ≠ g) (bk2 : Bool) (L2 : List Rw) : MapAt (putM w g bk2 L2) b bk L := h.other hg hne _
theorem wpl_putM {P : Program} {ops : Array Oper} {rest : List Oper} {o : Oper} {a : Act} {w : World} {Q : Exit → Act → World → Prop} {t : TypeId} {vm vx vy : Value} {w' : World} (hr : (Instr.mapUpdate t vm vx vy).run P w = .ok () w') (hgd : o.guard = none) (m x y : Operand) (ho : o.op = .mapUpdate t m x y) (hm : a.eval m = vm) (hx : a.eval x = vx) (hy : a.eval y = vy)
  (h : wpList P ops Q rest (a.put o.dst undef) w') : wpList P ops Q (o :: rest) a w := wpl_put hgd t m x y ho vm vx vy hm hx hy w' hr h
theorem put_newM {w : World} {b : Nat} {bk : Bool} {L : List Rw} (hb : MapAt w b bk L) (hg : ∀ r ∈ L, Good r) {s : ByteArray} {f g : Nat → Nat} (hs : s.size ≤ 32) (hf : ∀ i, i < 16 → f i < 256) (h : hit bk L s f = false) :
  (Instr.mapUpdate 212 (.map (some b)) (.agg (sideC s f)) (.agg (row 16 (b8 g)))).run Tryz.prog w = .ok () (putM w b bk (L ++ [mk bk s f g])) := put_new hb hg hs hf h
theorem BookAt.put2 {w : World} {p : Pl} {e : Nat} {L : List Rw} (h : BookAt w p e L) (bk : Bool) (L' : List Rw) (hi : Inv p.F p.n L' e) :
  BookAt (putM (putM w (p.m bk) bk L') (p.m (!bk)) (!bk) L') p e L' ∧ KeptS p.S w (putM (putM w (p.m bk) bk L') (p.m (!bk)) (!bk) L') := by
 have m1 : MapAt (putM w (p.m bk) bk L') (p.m bk) bk L' := (h.maps bk).put L'
 have m2 := mapP (h.maps (!bk)) (h.maps bk) (m_ne h.ne bk).symm bk L'
 have k1 : KeptS p.S w (putM w (p.m bk) bk L') := keptS_set (KeptS.refl _ _) (m_mem p bk) ⟨_, _, h.maps bk⟩
 have k2 : KeptS p.S w (putM (putM w (p.m bk) bk L') (p.m (!bk)) (!bk) L') := keptS_set k1 (m_mem p (!bk)) ⟨_, _, m2⟩
 refine ⟨⟨k2.blk h.book (h.free h.book (by decide)), blkP (blkP h.tape (h.maps bk) _ _) m2 _ _, k2.own h.own (fun g cs hb => h.free hb (by decide)), fun b => ?_, h.ne, hi, h.lo⟩, k2⟩
 by_cases hb : b = bk
 ·subst hb; exact mapP m1 m2 (m_ne h.ne b) _ _
 have : b = !bk := by cases b <;> cases bk <;> simp_all
 subst this; exact m2.put L'
theorem KeptS.setRow {S : List Nat} {a w : World} (h : KeptS S a w) {g : Nat} (hg : a.heap.size ≤ g) (cs : Array Value) : KeptS S a (w.setRow g cs) :=
 ⟨h.os, h.tape, h.output, (by simpa using h.size), fun j hj hs => (setRow_other w g j cs (by omega)).trans (h.block j hj hs)⟩
theorem BookAt.setRow {w : World} {p : Pl} {e : Nat} {L : List Rw} {g : Nat} {cs : Array Value} (h : BookAt w p e L) (hb : Blk w g 137 cs) (ds : Array Value) : BookAt (w.setRow g ds) p e L := by
 have hS := h.free hb (by decide)
 have k : KeptS [g] w (w.setRow g ds) := ⟨rfl, rfl, rfl, by simp, fun j _ hs => setRow_other w g j ds (by simpa using hs)⟩
 refine ⟨k.blk h.book (by simpa using hb.ne h.book (by decide)), k.blk h.tape (by simpa using hb.ne h.tape (by decide)), k.own h.own (fun g' cs' hb' => by simpa using hb.ne hb' (by decide)), fun bk => k.map (h.maps bk) ?_, h.ne, h.inv, h.lo⟩
 simpa using (h.maps bk).ne_blk hb
theorem drawNew_ok (p : Pl) (d : Nat) (L : List Rw) (bk : Bool) (s : ByteArray) (hs : s.size ≤ 32) (w : World) (h : BookAt w p d L) (j : Nat) (hd : drawTo p.F p.n (hit bk L s) d = (true, j)) :
  Calls Tryz.prog 157 #[.pointer (some ⟨p.gb, 0, none⟩), .string s, .map (some (p.m bk))] w fun e w' => e = .returned (.tuple #[.agg (row 16 (b8 fun i => p.F (j + i))), .nilIface]) ∧ Kept p.gt w w' ∧ BookAt w' p (j + 16) L := by
 obtain ⟨h1, h2, h3, _⟩ := drawTo_spec p.F p.n _ d h.inv.hd _ _ hd
 refine (drawNew_any p d L bk s hs w h).mono ?_
 rintro e w' ⟨hk, ⟨j', hj, rfl, ht⟩ | ⟨j', k, x, y, hj, _⟩⟩
 ·rw [hd] at hj
  cases hj
  exact ⟨rfl, hk, h.tapeAt hk ht ⟨(h3 rfl).1, h.inv.hn, h.inv.hF, by have := h.inv.rows; omega, h.inv.good, h.inv.uniq⟩⟩
 rw [hd] at hj
 cases hj
theorem drawNew_end (p : Pl) (d : Nat) (L : List Rw) (bk : Bool) (s : ByteArray) (hs : s.size ≤ 32) (w : World) (h : BookAt w p d L) (j : Nat) (hd : drawTo p.F p.n (hit bk L s) d = (false, j)) :
  Calls Tryz.prog 157 #[.pointer (some ⟨p.gb, 0, none⟩), .string s, .map (some (p.m bk))] w fun e w' => ∃ k x, e = .returned (.tuple #[.agg (row 16 (b8 fun _ => 0)), .iface 81 (.pointer (some ⟨k, 0, none⟩))]) ∧ Blk w' k 84 #[x, .iface 56 (.int .i64 13)] ∧ w.heap.size ≤ k ∧ Kept p.gt w w' ∧ BookAt w' p j L := by
 obtain ⟨h1, h2, _, _⟩ := drawTo_spec p.F p.n _ d h.inv.hd _ _ hd
 refine (drawNew_any p d L bk s hs w h).mono ?_
 rintro e w' ⟨hk, ⟨j', hj, rfl, ht⟩ | ⟨j', k, x, y, hj, rfl, rfl, hF, hks, ht⟩⟩
 ·rw [hd] at hj
  cases hj
 rw [hd] at hj
 cases hj
 exact ⟨k, x, rfl, hF, hks, hk, h.tapeAt hk ht ⟨h2, h.inv.hn, h.inv.hF, by have := h.inv.rows; omega, h.inv.good, h.inv.uniq⟩⟩
set_option maxRecDepth 100000 in
set_option maxHeartbeats 2000000 in
theorem ask_forth (p : Pl) (d : Nat) (L : List Rw) (s : ByteArray) (f : Nat → Nat) (hs : s.size ≤ 32) (hf : ∀ i, i < 16 → f i < 256) (w : World) (h : BookAt w p d L) :
  Calls Tryz.prog 133 #[.pointer (some ⟨p.gb, 0, none⟩), .agg (sideC s f), .bool false] w (AskOut p d L false s f w) := by
 have hB1 : Below w.heap.size w ((w.alloc (.cells (sideC s f) 183)).alloc (.cells (row 16 (b8 fun _ => 0)) 137)) := ((Below.refl _ _).alloc (Nat.le_refl _) _).alloc (by simp) _
 have H1 := hid (h.keep hB1)
 have H0 := hid h
 have hc1 : ((w.alloc (.cells (sideC s f) 183)).alloc (.cells (row 16 (b8 fun _ => 0)) 137)).cell? ⟨p.gb, 1, none⟩ = some (.map (some p.gf)) := H1.out.book.cell 1
 have hc2 : ((w.alloc (.cells (sideC s f) 183)).alloc (.cells (row 16 (b8 fun _ => 0)) 137)).cell? ⟨p.gb, 2, none⟩ = some (.map (some p.gk)) := H1.out.book.cell 2
 have hSd : Blk ((w.alloc (.cells (sideC s f) 183)).alloc (.cells (row 16 (b8 fun _ => 0)) 137)) w.heap.size 183 (sideC s f) := (Blk.fresh _ _ _).alloc _
 have hz : Blk ((w.alloc (.cells (sideC s f) 183)).alloc (.cells (row 16 (b8 fun _ => 0)) 137)) (w.heap.size + 1) 137 (row 16 (b8 fun _ => 0)) := by
  have := Blk.fresh (w.alloc (.cells (sideC s f) 183)) 137 (row 16 (b8 fun _ => 0))
  simpa using this
 clear h
 go_enter Tryz.func133, Tryz.ntmps133
 go_wp2_with (first
  | (with_reducible refine wpl_alloc rfl 137 rfl _ z16 ?_))
 generalize ((w.alloc (.cells (sideC s f) 183)).alloc (.cells (row 16 (b8 fun _ => 0)) 137)) = w1 at *
 go_quiet (fail)
 have HB2 := hid (hB1.trans (below_drewN (Below.refl w.heap.size w1) nq))
 have H2 := hid (H1.out.keep (below_drewN (Below.refl w1.heap.size w1) nq))
 have HS := hid (hSd.drewN nq)
 have HZ := hid (hz.drewN nq)
 clear hB1 H1 hc1 hc2 hSd hz
 generalize w1.drewN nq = w2 at *
 clear w1 nq
 have HM : Hid (MapAt w2 p.gf false L) := hid (H2.out.maps false)
 cases hfd : L.find? (hitR false s f) with
 | some r =>
  have Hr := hid hfd
  clear hfd
  go_wp2_with (first
   | (with_reducible refine wpl_loadS rfl 183 _ rfl _ rfl 183 _ HS.out _ Tryz.underlying183 (iSide s f) ?_)
   | (with_reducible refine wpl_val rfl _ (exec_lookup 212 _ _ rfl (.map (some p.gf)) (.agg (sideC s f)) _ rfl rfl (look_hit HM.out H2.out.inv.good H2.out.inv.uniq hs hf Hr.out)) ?_)
   | (with_reducible refine wpl_alloc rfl 137 rfl _ z16 ?_)
   | (with_reducible refine wpl_store_new rfl 137 _ _ rfl _ _ 16 _ rfl rfl 137 i16 (row_size _ _) ?_)
   | (with_reducible refine wpl_load rfl 137 _ rfl _ rfl 137 _ (Blk.fresh w2 137 _) 16 5 Tryz.underlying137 (i16' _) ?_)
   | (with_reducible refine wpl_store rfl 137 _ _ rfl _ _ rfl rfl 137 _ (HZ.out.alloc _) (i16' _) (by simp [row_size]) (one_b8 _ _) ?_))
  refine ret_row_tmp Tryz.results133 rfl (w.heap.size + 1) rfl _ rfl 137 16 _ ((HZ.out.alloc _).setRow _) 5 Tryz.underlying137 i16 ?_
  have hB3 := below_setRow' (HB2.out.alloc HB2.out.size (.cells (row 16 (b8 (fr (!false) r))) 137)) (Nat.le_succ w.heap.size) (row 16 (b8 (fr (!false) r)))
  exact ⟨KeptS.of _ hB3, .inl ⟨_, _, _, askL_old Hr.out, rfl, H0.out.keep hB3⟩⟩
 | none =>
  have Hr := hid hfd
  have Hm := hid (find_none_hit hfd)
  clear hfd
  have HB3 := hid (HB2.out.alloc HB2.out.size (.cells (row 16 (b8 fun _ => 0)) 137))
  have H3 := hid (H2.out.keep ((Below.refl _ _).alloc (Nat.le_refl _) (.cells (row 16 (b8 fun _ => 0)) 137)))
  have HS3 := hid (HS.out.alloc (.cells (row 16 (b8 fun _ => 0)) 137))
  have HZ3 := hid (HZ.out.alloc (.cells (row 16 (b8 fun _ => 0)) 137))
  have HC3 : Hid ((w2.alloc (.cells (row 16 (b8 fun _ => 0)) 137)).cell? ⟨w.heap.size, 0, none⟩ = some (.string s)) := hid ((HS3.out.cell 0).trans (sv_str s f))
  have hgt := hid (Nat.ne_of_gt H0.out.tape.lt)
  have hgt1 := hid (Nat.ne_of_gt (Nat.lt_succ_of_lt H0.out.tape.lt))
  rcases hdr : drawTo p.F p.n (hit (!false) L s) d with ⟨_ | _, j⟩
  ·have Hd := hid hdr
   clear hdr
   go_wp2_with (first
    | (with_reducible refine wpl_loadS rfl 183 _ rfl _ rfl 183 _ HS.out _ Tryz.underlying183 (iSide s f) ?_)
    | (with_reducible refine wpl_val rfl _ (exec_lookup 212 _ _ rfl (.map (some p.gf)) (.agg (sideC s f)) _ rfl rfl (look_miss HM.out H2.out.inv.good hs hf Hm.out)) ?_)
    | (with_reducible refine wpl_alloc rfl 137 rfl _ z16 ?_)
    | (with_reducible refine wpl_store_new rfl 137 _ _ rfl _ _ 16 _ rfl rfl 137 i16 (row_size _ _) ?_)
    | (with_reducible refine wpl_ldstr rfl 9 _ rfl ⟨w.heap.size, 0, none⟩ rfl Tryz.underlying9 (.string s) HC3.out ?_)
    | (go_at_call 157; refine (drawNew_end p d L true s hs _ H3.out j Hd.out).mono ?_; rintro e w4 ⟨k, x, rfl, hF, hks, hk, hb4⟩; have HF := hid hF; have HK := hid hk; have Hks := hid hks; have H4 := hid hb4; have HZ4 := hid (hk.blk HZ3.out hgt1.out); clear hF hks hk hb4)
    | (with_reducible refine wpl_build0 rfl 137 rfl _ built16 ?_)
    | (with_reducible refine wpl_store rfl 137 _ _ rfl _ _ rfl rfl 137 _ (HZ4.out.alloc _) (i16' _) (by simp [row_size]) (one_b8 _ _) ?_))
   refine ret_row_tmp Tryz.results133 rfl (w.heap.size + 1) rfl _ rfl 137 16 _ ((HZ4.out.alloc _).setRow _) 5 Tryz.underlying137 i16 ?_
   have hks := Hks.out
   have hw3 := HB3.out.size
   have hkn : k ≠ w.heap.size + 1 := by have := HZ3.out.lt; omega
   refine ⟨((KeptS.of p.S HB3.out).trans ((KeptS.of1 HK.out (gt_mem p)).trans (KeptS.of _ ((Below.refl _ _).alloc (Nat.le_refl _) _)))).setRow (Nat.le_succ _) _, .inr ⟨L, j, k, x, askL_end Hr.out Hd.out, rfl, (HF.out.alloc _).otherRow _ _ hkn, by omega, ?_⟩⟩
   exact (H4.out.keep ((Below.refl _ _).alloc (Nat.le_refl _) _)).setRow (HZ4.out.alloc _) _
  have Hd := hid hdr
  have HI := hid (askL_inv H0.out.inv hs hf (askL_new Hr.out hdr)).1
  have Hnew := hid ((drawTo_spec p.F p.n _ d H0.out.inv.hd _ _ hdr).2.2.1 rfl).2
  have Hy : Hid (∀ i, i < 16 → p.F (j + i) < 256) := hid ((askL_inv H0.out.inv hs hf (askL_new Hr.out hdr)).2.1 _ rfl)
  clear hdr
  go_wp2_with (first
   | (with_reducible refine wpl_loadS rfl 183 _ rfl _ rfl 183 _ HS.out _ Tryz.underlying183 (iSide s f) ?_)
   | (with_reducible refine wpl_val rfl _ (exec_lookup 212 _ _ rfl (.map (some p.gf)) (.agg (sideC s f)) _ rfl rfl (look_miss HM.out H2.out.inv.good hs hf Hm.out)) ?_)
   | (with_reducible refine wpl_alloc rfl 137 rfl _ z16 ?_)
   | (with_reducible refine wpl_store_new rfl 137 _ _ rfl _ _ 16 _ rfl rfl 137 i16 (row_size _ _) ?_)
   | (with_reducible refine wpl_ldstr rfl 9 _ rfl ⟨w.heap.size, 0, none⟩ rfl Tryz.underlying9 (.string s) HC3.out ?_))
  refine (drawNew_ok p d L true s hs _ H3.out j Hd.out).mono ?_
  rintro e w4 ⟨rfl, hk, hb4⟩
  have HK := hid hk
  have H5 := hid (hb4.keep ((Below.refl _ _).alloc (Nat.le_refl _) (.cells (row 16 (b8 fun i => p.F (j + i))) 137)))
  have HZ5 := hid ((hk.blk HZ3.out hgt1.out).alloc (.cells (row 16 (b8 fun i => p.F (j + i))) 137))
  have HS5 := hid ((hk.blk HS3.out hgt.out).alloc (.cells (row 16 (b8 fun i => p.F (j + i))) 137))
  have HT5 := hid (Blk.fresh w4 137 (row 16 (b8 fun i => p.F (j + i))))
  have HM5 : Hid (MapAt (w4.alloc (.cells (row 16 (b8 fun i => p.F (j + i))) 137)) p.gf false L) := hid (H5.out.maps false)
  have HN5 : Hid (MapAt (w4.alloc (.cells (row 16 (b8 fun i => p.F (j + i))) 137)) p.gk true L) := hid (H5.out.maps true)
  have HZ6 := hid (blkP HZ5.out HM5.out false (L ++ [mk false s f (fun i => p.F (j + i))]))
  have HS6 := hid (blkP HS5.out HM5.out false (L ++ [mk false s f (fun i => p.F (j + i))]))
  have HT6 := hid (blkP HT5.out HM5.out false (L ++ [mk false s f (fun i => p.F (j + i))]))
  have HN6 := hid (mapP HN5.out HM5.out (m_ne H0.out.ne false).symm false (L ++ [mk false s f (fun i => p.F (j + i))]))
  have HC6 : Hid ((putM (w4.alloc (.cells (row 16 (b8 fun i => p.F (j + i))) 137)) p.gf false (L ++ [mk false s f (fun i => p.F (j + i))])).cell? ⟨w.heap.size, 0, none⟩ = some (.string s)) := hid ((HS6.out.cell 0).trans (sv_str s f))
  have HB6 : Hid (∀ i, i < 16 → (putM (w4.alloc (.cells (row 16 (b8 fun i => p.F (j + i))) 137)) p.gf false (L ++ [mk false s f (fun i => p.F (j + i))])).cell? ⟨w.heap.size, 1 + i, none⟩ = some (.int .u8 ((f i : Nat) : Int))) := hid fun i hi => (HS6.out.cell (1 + i)).trans (sv_byte s f i hi)
  have HZ7 := hid (blkP HZ6.out HN6.out true (L ++ [mk false s f (fun i => p.F (j + i))]))
  have HT7 := hid (blkP HT6.out HN6.out true (L ++ [mk false s f (fun i => p.F (j + i))]))
  have hput := put_newM HN6.out H5.out.inv.good (g := f) hs Hy.out Hnew.out
  rw [show mk true s (fun i => p.F (j + i)) f = mk false s f (fun i => p.F (j + i)) from rfl] at hput
  have HP := hid hput
  have HP1 := hid (put_newM (g := fun i => p.F (j + i)) HM5.out H5.out.inv.good hs hf Hm.out)
  clear hk hb4 hput
  go_wp2_with (first
   | (with_reducible refine wpl_alloc rfl 137 rfl _ z16 ?_)
   | (with_reducible refine wpl_store_new rfl 137 _ _ rfl _ _ 16 _ rfl rfl 137 i16 (row_size _ _) ?_)
   | (with_reducible refine wpl_loadS rfl 183 _ rfl _ rfl 183 _ HS5.out _ Tryz.underlying183 (iSide s f) ?_)
   | (with_reducible refine wpl_load rfl 137 _ rfl _ rfl 137 _ HT5.out 16 5 Tryz.underlying137 (i16' _) ?_)
   | (with_reducible refine wpl_load rfl 137 _ rfl _ rfl 137 _ HT6.out 16 5 Tryz.underlying137 (i16' _) ?_)
   | (with_reducible refine wpl_load rfl 137 _ rfl _ rfl 137 _ HT7.out 16 5 Tryz.underlying137 (i16' _) ?_)
   | (with_reducible refine wpl_putM HP1.out rfl _ _ _ rfl rfl rfl rfl ?_)
   | (with_reducible refine wpl_ldstr rfl 9 _ rfl ⟨w.heap.size, 0, none⟩ rfl Tryz.underlying9 (.string s) HC6.out ?_)
   | (with_reducible refine wpl_build2 rfl 183 _ _ rfl (.string s) (.agg (row 16 (b8 fun i => p.F (j + i)))) rfl rfl _ (builtSide s (fun i => p.F (j + i))) ?_)
   | (with_reducible refine wpl_val rfl _ (exec_loadO 137 _ rfl w.heap.size 1 rfl 16 f HB6.out 5 Tryz.underlying137 i16) ?_)
   | (with_reducible refine wpl_putM HP.out rfl _ _ _ rfl rfl rfl rfl ?_)
   | (with_reducible refine wpl_store rfl 137 _ _ rfl _ _ rfl rfl 137 _ HZ7.out (i16' _) (by simp [row_size]) (one_b8 _ _) ?_))
  refine ret_row_tmp Tryz.results133 rfl (w.heap.size + 1) rfl _ rfl 137 16 _ (HZ7.out.setRow _) 5 Tryz.underlying137 i16 ?_
  obtain ⟨hb7, hk7⟩ := H5.out.put2 false (L ++ [mk false s f (fun i => p.F (j + i))]) HI.out
  have hk5 := (KeptS.of p.S HB3.out).trans ((KeptS.of1 HK.out (gt_mem p)).trans (KeptS.of p.S ((Below.refl w4.heap.size w4).alloc (Nat.le_refl _) (.cells (row 16 (b8 fun i => p.F (j + i))) 137))))
  exact ⟨(hk5.trans hk7).setRow (Nat.le_succ _) _, .inl ⟨_, _, _, askL_new Hr.out Hd.out, rfl, hb7.setRow HZ7.out _⟩⟩
set_option maxRecDepth 100000 in
set_option maxHeartbeats 2000000 in
theorem ask_back (p : Pl) (d : Nat) (L : List Rw) (s : ByteArray) (f : Nat → Nat) (hs : s.size ≤ 32) (hf : ∀ i, i < 16 → f i < 256) (w : World) (h : BookAt w p d L) :
  Calls Tryz.prog 133 #[.pointer (some ⟨p.gb, 0, none⟩), .agg (sideC s f), .bool true] w (AskOut p d L true s f w) := by
 have hB1 : Below w.heap.size w ((w.alloc (.cells (sideC s f) 183)).alloc (.cells (row 16 (b8 fun _ => 0)) 137)) := ((Below.refl _ _).alloc (Nat.le_refl _) _).alloc (by simp) _
 have H1 := hid (h.keep hB1)
 have H0 := hid h
 have hc1 : ((w.alloc (.cells (sideC s f) 183)).alloc (.cells (row 16 (b8 fun _ => 0)) 137)).cell? ⟨p.gb, 1, none⟩ = some (.map (some p.gf)) := H1.out.book.cell 1
 have hc2 : ((w.alloc (.cells (sideC s f) 183)).alloc (.cells (row 16 (b8 fun _ => 0)) 137)).cell? ⟨p.gb, 2, none⟩ = some (.map (some p.gk)) := H1.out.book.cell 2
 have hSd : Blk ((w.alloc (.cells (sideC s f) 183)).alloc (.cells (row 16 (b8 fun _ => 0)) 137)) w.heap.size 183 (sideC s f) := (Blk.fresh _ _ _).alloc _
 have hz : Blk ((w.alloc (.cells (sideC s f) 183)).alloc (.cells (row 16 (b8 fun _ => 0)) 137)) (w.heap.size + 1) 137 (row 16 (b8 fun _ => 0)) := by
  have := Blk.fresh (w.alloc (.cells (sideC s f) 183)) 137 (row 16 (b8 fun _ => 0))
  simpa using this
 clear h
 go_enter Tryz.func133, Tryz.ntmps133
 go_wp2_with (first
  | (with_reducible refine wpl_alloc rfl 137 rfl _ z16 ?_))
 generalize ((w.alloc (.cells (sideC s f) 183)).alloc (.cells (row 16 (b8 fun _ => 0)) 137)) = w1 at *
 go_quiet (fail)
 have HB2 := hid (hB1.trans (below_drewN (Below.refl w.heap.size w1) nq))
 have H2 := hid (H1.out.keep (below_drewN (Below.refl w1.heap.size w1) nq))
 have HS := hid (hSd.drewN nq)
 have HZ := hid (hz.drewN nq)
 clear hB1 H1 hc1 hc2 hSd hz
 generalize w1.drewN nq = w2 at *
 clear w1 nq
 have HM : Hid (MapAt w2 p.gk true L) := hid (H2.out.maps true)
 cases hfd : L.find? (hitR true s f) with
 | some r =>
  have Hr := hid hfd
  clear hfd
  go_wp2_with (first
   | (with_reducible refine wpl_loadS rfl 183 _ rfl _ rfl 183 _ HS.out _ Tryz.underlying183 (iSide s f) ?_)
   | (with_reducible refine wpl_val rfl _ (exec_lookup 212 _ _ rfl (.map (some p.gk)) (.agg (sideC s f)) _ rfl rfl (look_hit HM.out H2.out.inv.good H2.out.inv.uniq hs hf Hr.out)) ?_)
   | (with_reducible refine wpl_alloc rfl 137 rfl _ z16 ?_)
   | (with_reducible refine wpl_store_new rfl 137 _ _ rfl _ _ 16 _ rfl rfl 137 i16 (row_size _ _) ?_)
   | (with_reducible refine wpl_load rfl 137 _ rfl _ rfl 137 _ (Blk.fresh w2 137 _) 16 5 Tryz.underlying137 (i16' _) ?_)
   | (with_reducible refine wpl_store rfl 137 _ _ rfl _ _ rfl rfl 137 _ (HZ.out.alloc _) (i16' _) (by simp [row_size]) (one_b8 _ _) ?_))
  refine ret_row_tmp Tryz.results133 rfl (w.heap.size + 1) rfl _ rfl 137 16 _ ((HZ.out.alloc _).setRow _) 5 Tryz.underlying137 i16 ?_
  have hB3 := below_setRow' (HB2.out.alloc HB2.out.size (.cells (row 16 (b8 (fr (!true) r))) 137)) (Nat.le_succ w.heap.size) (row 16 (b8 (fr (!true) r)))
  exact ⟨KeptS.of _ hB3, .inl ⟨_, _, _, askL_old Hr.out, rfl, H0.out.keep hB3⟩⟩
 | none =>
  have Hr := hid hfd
  have Hm := hid (find_none_hit hfd)
  clear hfd
  have HB3 := hid (HB2.out.alloc HB2.out.size (.cells (row 16 (b8 fun _ => 0)) 137))
  have H3 := hid (H2.out.keep ((Below.refl _ _).alloc (Nat.le_refl _) (.cells (row 16 (b8 fun _ => 0)) 137)))
  have HS3 := hid (HS.out.alloc (.cells (row 16 (b8 fun _ => 0)) 137))
  have HZ3 := hid (HZ.out.alloc (.cells (row 16 (b8 fun _ => 0)) 137))
  have HC3 : Hid ((w2.alloc (.cells (row 16 (b8 fun _ => 0)) 137)).cell? ⟨w.heap.size, 0, none⟩ = some (.string s)) := hid ((HS3.out.cell 0).trans (sv_str s f))
  have hgt := hid (Nat.ne_of_gt H0.out.tape.lt)
  have hgt1 := hid (Nat.ne_of_gt (Nat.lt_succ_of_lt H0.out.tape.lt))
  rcases hdr : drawTo p.F p.n (hit (!true) L s) d with ⟨_ | _, j⟩
  ·have Hd := hid hdr
   clear hdr
   go_wp2_with (first
    | (with_reducible refine wpl_loadS rfl 183 _ rfl _ rfl 183 _ HS.out _ Tryz.underlying183 (iSide s f) ?_)
    | (with_reducible refine wpl_val rfl _ (exec_lookup 212 _ _ rfl (.map (some p.gk)) (.agg (sideC s f)) _ rfl rfl (look_miss HM.out H2.out.inv.good hs hf Hm.out)) ?_)
    | (with_reducible refine wpl_alloc rfl 137 rfl _ z16 ?_)
    | (with_reducible refine wpl_store_new rfl 137 _ _ rfl _ _ 16 _ rfl rfl 137 i16 (row_size _ _) ?_)
    | (with_reducible refine wpl_ldstr rfl 9 _ rfl ⟨w.heap.size, 0, none⟩ rfl Tryz.underlying9 (.string s) HC3.out ?_)
    | (go_at_call 157; refine (drawNew_end p d L false s hs _ H3.out j Hd.out).mono ?_; rintro e w4 ⟨k, x, rfl, hF, hks, hk, hb4⟩; have HF := hid hF; have HK := hid hk; have Hks := hid hks; have H4 := hid hb4; have HZ4 := hid (hk.blk HZ3.out hgt1.out); clear hF hks hk hb4)
    | (with_reducible refine wpl_build0 rfl 137 rfl _ built16 ?_)
    | (with_reducible refine wpl_store rfl 137 _ _ rfl _ _ rfl rfl 137 _ (HZ4.out.alloc _) (i16' _) (by simp [row_size]) (one_b8 _ _) ?_))
   refine ret_row_tmp Tryz.results133 rfl (w.heap.size + 1) rfl _ rfl 137 16 _ ((HZ4.out.alloc _).setRow _) 5 Tryz.underlying137 i16 ?_
   have hks := Hks.out
   have hw3 := HB3.out.size
   have hkn : k ≠ w.heap.size + 1 := by have := HZ3.out.lt; omega
   refine ⟨((KeptS.of p.S HB3.out).trans ((KeptS.of1 HK.out (gt_mem p)).trans (KeptS.of _ ((Below.refl _ _).alloc (Nat.le_refl _) _)))).setRow (Nat.le_succ _) _, .inr ⟨L, j, k, x, askL_end Hr.out Hd.out, rfl, (HF.out.alloc _).otherRow _ _ hkn, by omega, ?_⟩⟩
   exact (H4.out.keep ((Below.refl _ _).alloc (Nat.le_refl _) _)).setRow (HZ4.out.alloc _) _
  have Hd := hid hdr
  have HI := hid (askL_inv H0.out.inv hs hf (askL_new Hr.out hdr)).1
  have Hnew := hid ((drawTo_spec p.F p.n _ d H0.out.inv.hd _ _ hdr).2.2.1 rfl).2
  have Hy : Hid (∀ i, i < 16 → p.F (j + i) < 256) := hid ((askL_inv H0.out.inv hs hf (askL_new Hr.out hdr)).2.1 _ rfl)
  clear hdr
  go_wp2_with (first
   | (with_reducible refine wpl_loadS rfl 183 _ rfl _ rfl 183 _ HS.out _ Tryz.underlying183 (iSide s f) ?_)
   | (with_reducible refine wpl_val rfl _ (exec_lookup 212 _ _ rfl (.map (some p.gk)) (.agg (sideC s f)) _ rfl rfl (look_miss HM.out H2.out.inv.good hs hf Hm.out)) ?_)
   | (with_reducible refine wpl_alloc rfl 137 rfl _ z16 ?_)
   | (with_reducible refine wpl_store_new rfl 137 _ _ rfl _ _ 16 _ rfl rfl 137 i16 (row_size _ _) ?_)
   | (with_reducible refine wpl_ldstr rfl 9 _ rfl ⟨w.heap.size, 0, none⟩ rfl Tryz.underlying9 (.string s) HC3.out ?_))
  refine (drawNew_ok p d L false s hs _ H3.out j Hd.out).mono ?_
  rintro e w4 ⟨rfl, hk, hb4⟩
  have HK := hid hk
  have H5 := hid (hb4.keep ((Below.refl _ _).alloc (Nat.le_refl _) (.cells (row 16 (b8 fun i => p.F (j + i))) 137)))
  have HZ5 := hid ((hk.blk HZ3.out hgt1.out).alloc (.cells (row 16 (b8 fun i => p.F (j + i))) 137))
  have HS5 := hid ((hk.blk HS3.out hgt.out).alloc (.cells (row 16 (b8 fun i => p.F (j + i))) 137))
  have HT5 := hid (Blk.fresh w4 137 (row 16 (b8 fun i => p.F (j + i))))
  have HM5 : Hid (MapAt (w4.alloc (.cells (row 16 (b8 fun i => p.F (j + i))) 137)) p.gk true L) := hid (H5.out.maps true)
  have HN5 : Hid (MapAt (w4.alloc (.cells (row 16 (b8 fun i => p.F (j + i))) 137)) p.gf false L) := hid (H5.out.maps false)
  have HZ6 := hid (blkP HZ5.out HM5.out true (L ++ [mk true s f (fun i => p.F (j + i))]))
  have HS6 := hid (blkP HS5.out HM5.out true (L ++ [mk true s f (fun i => p.F (j + i))]))
  have HT6 := hid (blkP HT5.out HM5.out true (L ++ [mk true s f (fun i => p.F (j + i))]))
  have HN6 := hid (mapP HN5.out HM5.out (m_ne H0.out.ne true).symm true (L ++ [mk true s f (fun i => p.F (j + i))]))
  have HC6 : Hid ((putM (w4.alloc (.cells (row 16 (b8 fun i => p.F (j + i))) 137)) p.gk true (L ++ [mk true s f (fun i => p.F (j + i))])).cell? ⟨w.heap.size, 0, none⟩ = some (.string s)) := hid ((HS6.out.cell 0).trans (sv_str s f))
  have HB6 : Hid (∀ i, i < 16 → (putM (w4.alloc (.cells (row 16 (b8 fun i => p.F (j + i))) 137)) p.gk true (L ++ [mk true s f (fun i => p.F (j + i))])).cell? ⟨w.heap.size, 1 + i, none⟩ = some (.int .u8 ((f i : Nat) : Int))) := hid fun i hi => (HS6.out.cell (1 + i)).trans (sv_byte s f i hi)
  have HZ7 := hid (blkP HZ6.out HN6.out false (L ++ [mk true s f (fun i => p.F (j + i))]))
  have HT7 := hid (blkP HT6.out HN6.out false (L ++ [mk true s f (fun i => p.F (j + i))]))
  have hput := put_newM HN6.out H5.out.inv.good (g := f) hs Hy.out Hnew.out
  rw [show mk false s (fun i => p.F (j + i)) f = mk true s f (fun i => p.F (j + i)) from rfl] at hput
  have HP := hid hput
  have HP1 := hid (put_newM (g := fun i => p.F (j + i)) HM5.out H5.out.inv.good hs hf Hm.out)
  clear hk hb4 hput
  go_wp2_with (first
   | (with_reducible refine wpl_alloc rfl 137 rfl _ z16 ?_)
   | (with_reducible refine wpl_store_new rfl 137 _ _ rfl _ _ 16 _ rfl rfl 137 i16 (row_size _ _) ?_)
   | (with_reducible refine wpl_loadS rfl 183 _ rfl _ rfl 183 _ HS5.out _ Tryz.underlying183 (iSide s f) ?_)
   | (with_reducible refine wpl_load rfl 137 _ rfl _ rfl 137 _ HT5.out 16 5 Tryz.underlying137 (i16' _) ?_)
   | (with_reducible refine wpl_load rfl 137 _ rfl _ rfl 137 _ HT6.out 16 5 Tryz.underlying137 (i16' _) ?_)
   | (with_reducible refine wpl_load rfl 137 _ rfl _ rfl 137 _ HT7.out 16 5 Tryz.underlying137 (i16' _) ?_)
   | (with_reducible refine wpl_putM HP1.out rfl _ _ _ rfl rfl rfl rfl ?_)
   | (with_reducible refine wpl_ldstr rfl 9 _ rfl ⟨w.heap.size, 0, none⟩ rfl Tryz.underlying9 (.string s) HC6.out ?_)
   | (with_reducible refine wpl_build2 rfl 183 _ _ rfl (.string s) (.agg (row 16 (b8 fun i => p.F (j + i)))) rfl rfl _ (builtSide s (fun i => p.F (j + i))) ?_)
   | (with_reducible refine wpl_val rfl _ (exec_loadO 137 _ rfl w.heap.size 1 rfl 16 f HB6.out 5 Tryz.underlying137 i16) ?_)
   | (with_reducible refine wpl_putM HP.out rfl _ _ _ rfl rfl rfl rfl ?_)
   | (with_reducible refine wpl_store rfl 137 _ _ rfl _ _ rfl rfl 137 _ HZ7.out (i16' _) (by simp [row_size]) (one_b8 _ _) ?_))
  refine ret_row_tmp Tryz.results133 rfl (w.heap.size + 1) rfl _ rfl 137 16 _ (HZ7.out.setRow _) 5 Tryz.underlying137 i16 ?_
  obtain ⟨hb7, hk7⟩ := H5.out.put2 true (L ++ [mk true s f (fun i => p.F (j + i))]) HI.out
  have hk5 := (KeptS.of p.S HB3.out).trans ((KeptS.of1 HK.out (gt_mem p)).trans (KeptS.of p.S ((Below.refl w4.heap.size w4).alloc (Nat.le_refl _) (.cells (row 16 (b8 fun i => p.F (j + i))) 137))))
  exact ⟨(hk5.trans hk7).setRow (Nat.le_succ _) _, .inl ⟨_, _, _, askL_new Hr.out Hd.out, rfl, hb7.setRow HZ7.out _⟩⟩
theorem ask_any (p : Pl) (d : Nat) (L : List Rw) (bk : Bool) (s : ByteArray) (f : Nat → Nat) (hs : s.size ≤ 32) (hf : ∀ i, i < 16 → f i < 256) (w : World) (h : BookAt w p d L) :
  Calls Tryz.prog 133 #[.pointer (some ⟨p.gb, 0, none⟩), .agg (sideC s f), .bool bk] w (AskOut p d L bk s f w) := by
 cases bk
 ·exact ask_forth p d L s f hs hf w h
 exact ask_back p d L s f hs hf w h
end Go.Proofs.YteapfdnjbgonmaaGreatDoor.Bk
