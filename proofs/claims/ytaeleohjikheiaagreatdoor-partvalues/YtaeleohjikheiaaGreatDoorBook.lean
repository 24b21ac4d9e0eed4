/-
  The oracle's book in memory: NewBook, Rows, draw, drawNew, ask.
-/
import Derived.Test.YtaeleohjikheiaaGreatDoorBookX
import Derived.Test.YtaeleohjikheiaaGreatDoorTapeX
import Derived.Test.YtaeleohjikheiaaGreatDoorDesKeys
import Derived.Test.YtaeleohjikheiaaGreatDoorConv
namespace Go.Proofs.YtaeleohjikheiaaGreatDoor.Bk
open Mem Go.ChangeShapes Go.WideShapes Go.ChangeAt Go.RowKit
open Des (exec_arr exec_loadR wpl_build)
/-- where the book lies -/
structure Pl where
  gb : Nat
  gt : Nat
  gf : Nat
  gk : Nat
  base : Nat
  v : Value
  n : Nat
  F : Nat → Nat
/-- the blocks that change -/
def Pl.S (p : Pl) : List Nat := [p.gt, p.gf, p.gk]
def Pl.m (p : Pl) (bk : Bool) : Nat := if bk then p.gk else p.gf
structure BookAt (w : World) (p : Pl) (d : Nat) (L : List Rw) : Prop where
  book : Blk w p.gb 96 #[.pointer (some ⟨p.gt, 0, none⟩), .map (some p.gf), .map (some p.gk)]
  tape : Blk w p.gt 88 #[p.v, .int .i64 (d : Int)]
  own : Own w p.base 5 1 p.v p.n p.F
  maps : ∀ bk, MapAt w (p.m bk) bk L
  ne : p.gf ≠ p.gk
  inv : Inv p.F p.n L d
  lo : p.base ≤ p.gb ∧ ∀ g ∈ p.S, p.base ≤ g
section
variable {w w' : World} {p : Pl} {d : Nat} {L : List Rw}
theorem BookAt.keep (h : BookAt w p d L) (hB : Below w.heap.size w w') : BookAt w' p d L :=
  ⟨h.book.below hB h.book.lt, h.tape.below hB h.tape.lt, h.own.below hB (Nat.le_refl _), fun bk => (hB.block _ (h.maps bk).lt).trans (h.maps bk), h.ne, h.inv, h.lo⟩
theorem m_mem (p : Pl) (bk : Bool) : p.m bk ∈ p.S := by cases bk <;> simp [Pl.m, Pl.S]
theorem gt_mem (p : Pl) : p.gt ∈ p.S := by simp [Pl.S]
theorem m_ne {p : Pl} (h : p.gf ≠ p.gk) (bk : Bool) : p.m bk ≠ p.m (!bk) := by cases bk <;> simp [Pl.m, h, h.symm]
/-- no other block is among them -/
theorem BookAt.free (h : BookAt w p d L) {g : Nat} {t : TypeId} {cs : Array Value} (hb : Blk w g t cs) (ht : t ≠ 88) : g ∉ p.S := by
  intro hm
  simp only [Pl.S, List.mem_cons, List.not_mem_nil, or_false] at hm
  rcases hm with rfl | rfl | rfl
  · exact hb.ne h.tape ht rfl
  · exact (h.maps false).ne_blk hb rfl
  · exact (h.maps true).ne_blk hb rfl
theorem BookAt.tapeAt (h : BookAt w p d L) (hk : Kept p.gt w w') {e : Nat} (ht : Blk w' p.gt 88 #[p.v, .int .i64 (e : Int)]) (hi : Inv p.F p.n L e) : BookAt w' p e L := by
  have hne : p.gb ≠ p.gt := h.tape.ne h.book (by decide)
  refine ⟨hk.blk h.book hne, ht, hk.own h.tape (by decide) h.own, fun bk => ?_, h.ne, hi, h.lo⟩
  exact (hk.block _ (h.maps bk).lt ((h.maps bk).ne_blk h.tape)).trans (h.maps bk)
end
theorem kept_setRow {g k : Nat} {a w : World} (h : Kept g a w) (hk : a.heap.size ≤ k) (cs : Array Value) : Kept g a (w.setRow k cs) :=
  ⟨h.os, h.tape, h.output, (by simpa using h.size), fun j hj hg => (setRow_other w k j cs (by omega)).trans (h.block j hj hg)⟩
theorem z16 : (Tryz.prog.info? 65).map (·.zero) = some (some (.agg (row 16 (b8 fun _ => 0)))) := by kernel_rfl
theorem i16 : (Tryz.prog.info? 65).map (·.size) = some 16 := by kernel_rfl
theorem i16' (f : Nat → Value) : (Tryz.prog.info? 65).map (·.size) = some (row 16 f).size := by rw [row_size]; exact i16
theorem built16 : Tryz.prog.built 65 [] = some (row 16 (b8 fun _ => 0)) := by kernel_rfl
theorem take16 (p : Pl) (d : Nat) (L : List Rw) (w : World) (h : BookAt w p d L) (hd : d + 16 ≤ p.n) :
    Calls Tryz.prog 145 #[.pointer (some ⟨p.gt, 0, none⟩), .int .i64 16] w fun e w' => ∃ g c, e = .returned (.tuple #[.slice (some ⟨g, 0, none⟩) 16 c, .nilIface]) ∧ (∀ i, i < 16 → w'.cell? ((⟨g, 0, none⟩ : Addr).add i) = some (.int .u8 ((p.F (d + i) : Nat) : Int))) ∧ Kept p.gt w w' ∧ Blk w' p.gt 88 #[p.v, .int .i64 ((d + 16 : Nat) : Int)] := by
  refine (take_ok p.gt _ p.v p.n d 16 p.F w h.tape h.own hd (by have := h.inv.hn; omega)).mono ?_
  rintro e w' ⟨vx, rfl, ho, hk, hb⟩
  obtain ⟨A, c, rfl, hc, -, hA⟩ := ho.slice'
  obtain ⟨ad, rfl, _, hcell⟩ := ho.reads (by omega)
  obtain ⟨g, rfl⟩ := hA ad rfl
  exact ⟨g, c, rfl, hcell, hk, hb⟩
set_option maxRecDepth 100000 in
set_option maxHeartbeats 1000000 in
theorem draw_ok (p : Pl) (d : Nat) (L : List Rw) (w : World) (h : BookAt w p d L) (hd : d + 16 ≤ p.n) :
    Calls Tryz.prog 137 #[.pointer (some ⟨p.gb, 0, none⟩)] w fun e w' => e = .returned (.tuple #[.agg (row 16 (b8 fun i => p.F (d + i))), .nilIface]) ∧ Kept p.gt w w' ∧ Blk w' p.gt 88 #[p.v, .int .i64 ((d + 16 : Nat) : Int)] := by
  have hB1 : Below w.heap.size w (w.alloc (.cells (row 16 (b8 fun _ => 0)) 65)) := (Below.refl _ _).alloc (Nat.le_refl _) _
  have H1 := hid (h.keep hB1)
  have hz := Blk.fresh w 65 (row 16 (b8 fun _ => 0))
  have Hz := hid hz
  have hK1 := hid (Kept.of (g := p.gt) hB1)
  have hlt := hid h.tape.lt
  have hc0 : (w.alloc (.cells (row 16 (b8 fun _ => 0)) 65)).cell? ⟨p.gb, 0, none⟩ = some (.pointer (some ⟨p.gt, 0, none⟩)) := H1.out.book.cell 0
  clear h hB1 hz
  go_enter Tryz.func137, Tryz.ntmps137
  go_wp2_with (first
    | (with_reducible refine wpl_alloc rfl 65 rfl _ z16 ?_)
    | (go_at_call 145; refine (take16 p d L _ H1.out hd).mono ?_; rintro e w1 ⟨g, c, rfl, hcell, hk, hb⟩; have Hc := hid hcell; have Hz1 := hid (hk.blk Hz.out (by have := hlt.out; omega)); have Hk := hid hk; have Hb := hid hb; clear hcell hk hb)
    | (with_reducible refine wpl_val rfl _ (exec_arr 65 _ rfl ⟨g, 0, none⟩ 16 c rfl 16 5 Tryz.underlying65 (Nat.le_refl _)) ?_)
    | (with_reducible refine wpl_val rfl _ (exec_loadR 65 _ rfl ⟨g, 0, none⟩ rfl 16 _ Hc.out 5 Tryz.underlying65 i16) ?_)
    | (with_reducible refine wpl_store rfl 65 _ _ rfl _ _ rfl rfl 65 _ Hz1.out (i16' _) (by simp [row_size]) (one_b8 _ _) ?_))
  exact ret_row_tmp Tryz.results137 rfl w.heap.size rfl _ rfl 65 16 _ (Hz1.out.setRow _) 5 Tryz.underlying65 i16 ⟨rfl, kept_setRow (hK1.out.trans Hk.out) (Nat.le_refl _) _, Hb.out.otherRow _ _ (by have := hlt.out; omega)⟩
theorem take_less (p : Pl) (d : Nat) (L : List Rw) (w : World) (h : BookAt w p d L) (hd : p.n < d + 16) :
    Calls Tryz.prog 145 #[.pointer (some ⟨p.gt, 0, none⟩), .int .i64 16] w fun e w' => ∃ k x, e = .returned (.tuple #[.slice none 0 0, .iface 81 (.pointer (some ⟨k, 0, none⟩))]) ∧ Blk w' k 84 #[x, .iface 71 (.int .i64 13)] ∧ w.heap.size ≤ k ∧ Below w.heap.size w w' := by
  obtain ⟨A, c, hv, -⟩ := h.own.slice'
  have ht := h.tape
  rw [hv] at ht
  refine (take_few p.gt A p.n c d 16 w ht h.inv.hd (by have := h.inv.hn; omega) (by omega)).mono ?_
  rintro e w' ⟨k, rfl, hF, hk, hB⟩
  exact ⟨k, _, rfl, hF, hk, hB⟩
set_option maxRecDepth 100000 in
set_option maxHeartbeats 1000000 in
theorem draw_few (p : Pl) (d : Nat) (L : List Rw) (w : World) (h : BookAt w p d L) (hd : p.n < d + 16) :
    Calls Tryz.prog 137 #[.pointer (some ⟨p.gb, 0, none⟩)] w fun e w' => ∃ k x, e = .returned (.tuple #[.agg (row 16 (b8 fun _ => 0)), .iface 81 (.pointer (some ⟨k, 0, none⟩))]) ∧ Blk w' k 84 #[x, .iface 71 (.int .i64 13)] ∧ w.heap.size ≤ k ∧ Below w.heap.size w w' := by
  have hB1 : Below w.heap.size w (w.alloc (.cells (row 16 (b8 fun _ => 0)) 65)) := (Below.refl _ _).alloc (Nat.le_refl _) _
  have H1 := hid (h.keep hB1)
  have hz := Blk.fresh w 65 (row 16 (b8 fun _ => 0))
  have Hz := hid hz
  have HB1 := hid hB1
  have hc0 : (w.alloc (.cells (row 16 (b8 fun _ => 0)) 65)).cell? ⟨p.gb, 0, none⟩ = some (.pointer (some ⟨p.gt, 0, none⟩)) := H1.out.book.cell 0
  clear h hB1 hz
  go_enter Tryz.func137, Tryz.ntmps137
  go_wp2_with (first
    | (with_reducible refine wpl_alloc rfl 65 rfl _ z16 ?_)
    | (go_at_call 145; refine (take_less p d L _ H1.out hd).mono ?_; rintro e w1 ⟨k, x, rfl, hF, hk, hB⟩; have HF := hid hF; have Hz1 := hid (Hz.out.below hB Hz.out.lt); have HB := hid hB; have Hk := hid hk; clear hF hB hk)
    | (with_reducible refine wpl_build0 rfl 65 rfl _ built16 ?_)
    | (with_reducible refine wpl_store rfl 65 _ _ rfl _ _ rfl rfl 65 _ Hz1.out (i16' _) (by simp [row_size]) (one_b8 _ _) ?_))
  have hk1 := Hk.out
  simp at hk1
  exact ret_row_tmp Tryz.results137 rfl w.heap.size rfl _ rfl 65 16 _ (Hz1.out.setRow _) 5 Tryz.underlying65 i16 ⟨k, x, rfl, HF.out.otherRow _ _ (by omega), by omega, below_setRow' (HB1.out.trans (HB.out.mono HB1.out.size)) (Nat.le_refl _) _⟩
section
variable {P : Program} {ops : Array Oper} {rest : List Oper} {o : Oper} {a : Act} {w : World} {Q : Exit → Act → World → Prop}
theorem exec_lookup (t : TypeId) (m x : Operand) (ho : o.op = .lookup t m x true) (vm vx v : Value) (hm : a.eval m = vm) (hx : a.eval x = vx) (hr : (Instr.lookup t vm vx true).run P w = .ok v w) : (execOp a.eval o).run P w = .ok (.value v) w := by
  unfold execOp
  simp [ho, hm, hx, hr]
theorem wpl_build2 (hgd : o.guard = none) (ty : TypeId) (x y : Operand) (ho : o.op = .build ty #[(0, x), (1, y)]) (vx vy : Value) (hx : a.eval x = vx) (hy : a.eval y = vy) (cs : Array Value) (hb : P.built ty [(0, vx), (1, vy)] = some cs)
    (h : wpList P ops Q rest (a.put o.dst (.agg cs)) w) : wpList P ops Q (o :: rest) a w := by
  subst hx hy
  exact wpl_build hgd ty [(0, x), (1, y)] ho cs hb h
theorem wpl_put (hgd : o.guard = none) (t : TypeId) (m x y : Operand) (ho : o.op = .mapUpdate t m x y) (vm vx vy : Value) (hm : a.eval m = vm) (hx : a.eval x = vx) (hy : a.eval y = vy) (w' : World) (hr : (Instr.mapUpdate t vm vx vy).run P w = .ok () w')
    (h : wpList P ops Q rest (a.put o.dst undef) w') : wpList P ops Q (o :: rest) a w := by
  refine wpList_plain hgd fun _ hK => ?_
  unfold Oper.wp execOp
  simp only [ho, hm, hx, hy, hr, Sem.run_bind, Sem.run_pure, Result.andThen_ok]
  exact hK _ _ h
end
theorem builtSide (s : ByteArray) (f : Nat → Nat) : Tryz.prog.built 155 [(0, .string s), (1, .agg (row 16 (b8 f)))] = some (sideC s f) := by kernel_rfl
/-- where the tape stands -/
def posOf (w : World) (g : Nat) : Nat := match w.cell? ⟨g, 1, none⟩ with | some (.int _ z) => z.toNat | _ => 0
theorem BookAt.pos {w : World} {p : Pl} {d : Nat} {L : List Rw} (h : BookAt w p d L) : posOf w p.gt = d := by
  unfold posOf
  rw [h.tape.cell 1]
  simp
theorem hit_find {bk : Bool} {L : List Rw} {s : ByteArray} {f : Nat → Nat} (h : hit bk L s f = true) : ∃ r, L.find? (hitR bk s f) = some r := by
  cases hq : L.find? (hitR bk s f) with
  | none => rw [find_none_hit hq] at h; cases h
  | some r => exact ⟨r, rfl⟩
/-- what drawNew does -/
def DrawOut (p : Pl) (tk : (Nat → Nat) → Bool) (d : Nat) (w : World) (e : Ending) (w' : World) : Prop :=
  Kept p.gt w w' ∧ ((∃ j, drawTo p.F p.n tk d = (true, j) ∧ e = .returned (.tuple #[.agg (row 16 (b8 fun i => p.F (j + i))), .nilIface]) ∧ Blk w' p.gt 88 #[p.v, .int .i64 ((j + 16 : Nat) : Int)]) ∨
  (∃ j k x y, drawTo p.F p.n tk d = (false, j) ∧ e = .returned (.tuple #[y, .iface 81 (.pointer (some ⟨k, 0, none⟩))]) ∧ y = .agg (row 16 (b8 fun _ => 0)) ∧ Blk w' k 84 #[x, .iface 71 (.int .i64 13)] ∧ w.heap.size ≤ k ∧ Blk w' p.gt 88 #[p.v, .int .i64 (j : Int)]))
set_option maxRecDepth 100000 in
set_option maxHeartbeats 2000000 in
theorem drawNew_any (p : Pl) (d : Nat) (L : List Rw) (bk : Bool) (s : ByteArray) (hs : s.size ≤ 32) (w : World) (h : BookAt w p d L) :
    Calls Tryz.prog 119 #[.pointer (some ⟨p.gb, 0, none⟩), .string s, .map (some (p.m bk))] w (DrawOut p (hit bk L s) d w) := by
  have hB1 : Below w.heap.size w (w.alloc (.cells (row 16 (b8 fun _ => 0)) 65)) := (Below.refl _ _).alloc (Nat.le_refl _) _
  have H1 := hid (h.keep hB1)
  have Hz := hid (Blk.fresh w 65 (row 16 (b8 fun _ => 0)))
  have HB1 := hid hB1
  have hlt := hid h.tape.lt
  clear h hB1
  go_enter Tryz.func119, Tryz.ntmps119
  go_wp2_with (first
    | (with_reducible refine wpl_alloc rfl 65 rfl _ z16 ?_))
  go_loopw [9] (fun _ wr => ∃ e : Nat, BookAt wr p e L ∧ drawTo p.F p.n (hit bk L s) d = drawTo p.F p.n (hit bk L s) e ∧ Kept p.gt w wr ∧ Blk wr w.heap.size 65 (row 16 (b8 fun _ => 0))) (fun _ wr => p.n - posOf wr p.gt)
  case atStart => exact ⟨d, H1.out, rfl, Kept.of HB1.out, Hz.out⟩
  case round =>
    clear H1 Hz HB1
    obtain ⟨e, hbk, hdr, hkw, hz⟩ := hrel
    have Hbk := hid hbk
    have Hdr := hid hdr
    have Hkw := hid hkw
    have Hz := hid hz
    clear hbk hdr hkw hz
    by_cases h16 : e + 16 ≤ p.n
    · have hI : Inv p.F p.n L (e + 16) := ⟨h16, Hbk.out.inv.hn, Hbk.out.inv.hF, by have := Hbk.out.inv.rows; omega, Hbk.out.inv.good, Hbk.out.inv.uniq⟩
      have HI := hid hI
      have Hy : Hid (∀ i, i < 16 → p.F (e + i) < 256) := hid fun i hi => Hbk.out.inv.hF _ (by omega)
      clear hI
      cases ht : hit bk L s (fun i => p.F (e + i))
      · have Ht := hid ht
        clear ht
        go_wp2_with (first
          | (go_at_call 137; refine (draw_ok p e L _ Hbk.out h16).mono ?_; rintro e' w1 ⟨rfl, hk, hb⟩; have Hb1 := hid (Hbk.out.tapeAt hk hb HI.out); have Hk := hid hk; have Hz1 := hid (hk.blk Hz.out (by have := hlt.out; omega)); have Hb2 := hid (Hb1.out.keep ((Below.refl _ _).alloc (Nat.le_refl _) (.cells (row 16 (b8 fun i => p.F (e + i))) 65))); clear hk hb)
          | (with_reducible refine wpl_alloc rfl 65 rfl _ z16 ?_)
          | (with_reducible refine wpl_store_new rfl 65 _ _ rfl _ _ 16 _ rfl rfl 65 i16 (row_size _ _) ?_)
          | (with_reducible refine wpl_load rfl 65 _ rfl _ rfl 65 _ (Blk.fresh w1 65 (row 16 (b8 fun i => p.F (e + i)))) 16 5 Tryz.underlying65 (i16' _) ?_)
          | (with_reducible refine wpl_load rfl 65 _ rfl _ rfl 65 _ ((Blk.fresh w1 65 (row 16 (b8 fun i => p.F (e + i)))).alloc _) 16 5 Tryz.underlying65 (i16' _) ?_)
          | (with_reducible refine wpl_build2 rfl 155 _ _ rfl (.string s) (.agg (row 16 (b8 fun i => p.F (e + i)))) rfl rfl _ (builtSide s (fun i => p.F (e + i))) ?_)
          | (with_reducible refine wpl_val rfl _ (exec_lookup 94 _ _ rfl (.map (some (p.m bk))) (.agg (sideC s (fun i => p.F (e + i)))) _ rfl rfl (look_miss (Hb2.out.maps bk) HI.out.good hs Hy.out Ht.out)) ?_)
          | (with_reducible refine wpl_store rfl 65 _ _ rfl _ _ rfl rfl 65 _ ((Hz1.out.alloc _).alloc _) (i16' _) (by simp [row_size]) (one_b8 _ _) ?_))
        refine ret_row_tmp Tryz.results119 rfl w.heap.size rfl _ rfl 65 16 _ (((Hz1.out.alloc _).alloc _).setRow _) 5 Tryz.underlying65 i16 ⟨?_, .inl ⟨e, ?_, rfl, ?_⟩⟩
        · exact kept_setRow (Hkw.out.trans (Hk.out.trans (Kept.of (((Below.refl _ _).alloc (Nat.le_refl _) _).alloc (by simp) _)))) (Nat.le_refl _) _
        · rw [Hdr.out]; exact drawTo_new h16 Ht.out
        · exact ((Hb1.out.tape.alloc _).alloc _).otherRow _ _ (by have := hlt.out; omega)
      · have Ht := hid ht
        obtain ⟨r, hr⟩ := hit_find ht
        have Hr := hid hr
        clear ht hr
        go_wp2_with (first
          | (go_at_call 137; refine (draw_ok p e L _ Hbk.out h16).mono ?_; rintro e' w1 ⟨rfl, hk, hb⟩; have Hb1 := hid (Hbk.out.tapeAt hk hb HI.out); have Hk := hid hk; have Hz1 := hid (hk.blk Hz.out (by have := hlt.out; omega)); have Hb2 := hid (Hb1.out.keep ((Below.refl _ _).alloc (Nat.le_refl _) (.cells (row 16 (b8 fun i => p.F (e + i))) 65))); clear hk hb)
          | (with_reducible refine wpl_alloc rfl 65 rfl _ z16 ?_)
          | (with_reducible refine wpl_store_new rfl 65 _ _ rfl _ _ 16 _ rfl rfl 65 i16 (row_size _ _) ?_)
          | (with_reducible refine wpl_load rfl 65 _ rfl _ rfl 65 _ (Blk.fresh w1 65 (row 16 (b8 fun i => p.F (e + i)))) 16 5 Tryz.underlying65 (i16' _) ?_)
          | (with_reducible refine wpl_build2 rfl 155 _ _ rfl (.string s) (.agg (row 16 (b8 fun i => p.F (e + i)))) rfl rfl _ (builtSide s (fun i => p.F (e + i))) ?_)
          | (with_reducible refine wpl_val rfl _ (exec_lookup 94 _ _ rfl (.map (some (p.m bk))) (.agg (sideC s (fun i => p.F (e + i)))) _ rfl rfl (look_hit (Hb2.out.maps bk) HI.out.good HI.out.uniq hs Hy.out Hr.out)) ?_))
        go_round
        case rel =>
          refine ⟨e + 16, Hb1.out.keep (((Below.refl _ _).alloc (Nat.le_refl _) _).alloc (by simp) _), ?_, Hkw.out.trans (Hk.out.trans (Kept.of (((Below.refl _ _).alloc (Nat.le_refl _) _).alloc (by simp) _))), (Hz1.out.alloc _).alloc _⟩
          rw [Hdr.out]; exact drawTo_old h16 Ht.out
        case measure =>
          have e1 := (Hb1.out.keep (((Below.refl _ _).alloc (Nat.le_refl _) (.cells (row 16 (b8 fun i => p.F (e + i))) 65)).alloc (by simp) (.cells (row 16 (b8 (fr (!bk) r))) 65))).pos
          have e2 := Hbk.out.pos
          rw [e1, e2]; omega
    · go_wp2_with (first
        | (go_at_call 137; refine (draw_few p e L _ Hbk.out (by omega)).mono ?_; rintro e' w1 ⟨k, x, rfl, hF, hk, hB⟩; have HF := hid hF; have Hz1 := hid (Hz.out.below hB Hz.out.lt); have Hb1 := hid (Hbk.out.keep hB); have HB := hid hB; have Hks := hid hk; clear hF hB hk)
        | (with_reducible refine wpl_alloc rfl 65 rfl _ z16 ?_)
        | (with_reducible refine wpl_store_new rfl 65 _ _ rfl _ _ 16 _ rfl rfl 65 i16 (row_size _ _) ?_)
        | (with_reducible refine wpl_load rfl 65 _ rfl _ rfl 65 _ (Blk.fresh w1 65 (row 16 (b8 fun _ => 0))) 16 5 Tryz.underlying65 (i16' _) ?_)
        | (with_reducible refine wpl_store rfl 65 _ _ rfl _ _ rfl rfl 65 _ (Hz1.out.alloc _) (i16' _) (by simp [row_size]) (one_b8 _ _) ?_))
      refine ret_row_tmp Tryz.results119 rfl w.heap.size rfl _ rfl 65 16 _ ((Hz1.out.alloc _).setRow _) 5 Tryz.underlying65 i16 ⟨?_, .inr ⟨e, k, x, _, ?_, rfl, rfl, ?_, ?_, ?_⟩⟩
      · exact kept_setRow (Hkw.out.trans ((Kept.of HB.out).trans (Kept.of ((Below.refl _ _).alloc (Nat.le_refl _) _)))) (Nat.le_refl _) _
      · rw [Hdr.out]; exact drawTo_end (by omega)
      · exact (HF.out.alloc _).otherRow _ _ (by have := Hks.out; have := Hz.out.lt; omega)
      · have := Hks.out; have := Hkw.out.size; omega
      · exact (Hb1.out.tape.alloc _).otherRow _ _ (by have := hlt.out; omega)
end Go.Proofs.YtaeleohjikheiaaGreatDoor.Bk
