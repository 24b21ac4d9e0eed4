/-
  The oracle's book in memory: NewBook, Rows, ask.
-/
import Derived.Test.YtaeleohjikheiaaGreatDoorBook
namespace Go.Proofs.YtaeleohjikheiaaGreatDoor.Bk
open Mem Go.ChangeShapes Go.WideShapes Go.ChangeAt Go.RowKit
open Go.ChangeMaps (setBlock)
theorem newBook_any (gt base : Nat) (v : Value) (n : Nat) (F : Nat → Nat) (w : World) (ht : Blk w gt 88 #[v, .int .i64 ((0 : Nat) : Int)]) (ho : Own w base 5 1 v n F) (hbs : base ≤ gt) (hn : n ≤ 65536) (hF : ∀ i, i < n → F i < 256) :
    Calls Tryz.prog 25 #[.pointer (some ⟨gt, 0, none⟩)] w fun e w' => ∃ p : Pl, e = .returned (.pointer (some ⟨p.gb, 0, none⟩)) ∧ p.base = base ∧ p.n = n ∧ p.F = F ∧ BookAt w' p 0 [] ∧ Below w.heap.size w w' := by
  have hmm := @run_makeMap Tryz.prog
  have Ht := hid ht
  have Ho := hid ho
  clear ht ho
  go_enter Tryz.func25, Tryz.ntmps25
  go_wp2_with fail
  go_ret
  have hB : Below w.heap.size w (((w.alloc (.map #[] 0)).alloc (.map #[] 0)).alloc (.cells #[.pointer (some ⟨gt, 0, none⟩), .map (some w.heap.size), .map (some (w.heap.size + 1))] 96)) := (((Below.refl _ _).alloc (Nat.le_refl _) _).alloc (by simp) _).alloc (by simp; omega) _
  have hbw : base ≤ w.heap.size := Nat.le_of_lt (Nat.lt_of_le_of_lt hbs Ht.out.lt)
  refine ⟨⟨w.heap.size + 1 + 1, gt, w.heap.size, w.heap.size + 1, base, v, n, F⟩, rfl, rfl, rfl, rfl, ⟨?_, Ht.out.below hB Ht.out.lt, Ho.out.below hB (Nat.le_refl _), fun bk => ?_, by simp, Inv.start hn hF, ?_⟩, hB⟩
  · have := Blk.fresh ((w.alloc (.map #[] 0)).alloc (.map #[] 0)) 96 #[.pointer (some ⟨gt, 0, none⟩), .map (some w.heap.size), .map (some (w.heap.size + 1))]
    simpa using this
  · cases bk
    · exact ((MapAt.fresh w false).alloc _).alloc _
    · have := (MapAt.fresh (w.alloc (.map #[] 0)) true).alloc (.cells #[.pointer (some ⟨gt, 0, none⟩), .map (some w.heap.size), .map (some (w.heap.size + 1))] 96)
      simpa [Pl.m] using this
  · refine ⟨by show base ≤ w.heap.size + 1 + 1; omega, ?_⟩
    intro g hg
    simp only [Pl.S, List.mem_cons, List.not_mem_nil, or_false] at hg
    rcases hg with rfl | rfl | rfl
    · exact hbs
    · exact hbw
    · exact Nat.le_succ_of_le hbw
section
variable {P : Program} {ops : Array Oper} {rest : List Oper} {o : Oper} {a : Act} {w : World} {Q : Exit → Act → World → Prop}
/-- a whole struct out of its block -/
theorem wpl_loadS (hgd : o.guard = none) (ty : TypeId) (x : Operand) (ho : o.op = .load ty x) (g : Nat) (hx : a.eval x = .pointer (some ⟨g, 0, none⟩)) (t : TypeId) (cs : Array Value) (hg : Blk w g t cs)
    (fs : Array Field) (hu : P.underlying ty = some (.struct fs)) (hi : (P.info? ty).map (·.size) = some cs.size)
    (h : wpList P ops Q rest (a.put o.dst (.agg cs)) w) : wpList P ops Q (o :: rest) a w :=
  wpList_load_row hgd ty x ho g hx t cs (0, 0) _ hg hu rfl hi h
/-- a string out of its cell -/
theorem wpl_ldstr (hgd : o.guard = none) (ty : TypeId) (x : Operand) (ho : o.op = .load ty x) (p : Addr) (hx : a.eval x = .pointer (some p)) (hu : P.underlying ty = some .string) (v : Value) (hv : w.cell? p = some v)
    (h : wpList P ops Q rest (a.put o.dst v) w) : wpList P ops Q (o :: rest) a w := by
  refine wpList_plain hgd fun _ hK => ?_
  have hr : (Instr.loadAt ty (.pointer (some p))).run P w = .ok v w := by
    simp [Instr.loadAt, Instr.sureAddr, loadVar, isAgg, Sem.run_bind, run_underlying hu, hv]
  unfold Oper.wp execOp
  simp only [ho, hx, hr, Sem.run_bind, Sem.run_pure, Result.andThen_ok]
  exact hK _ _ h
end
theorem iSide (s : ByteArray) (f : Nat → Nat) : (Tryz.prog.info? 155).map (·.size) = some (sideC s f).size := by unfold sideC; rw [row_size]; kernel_rfl
theorem mk_swap (bk : Bool) (s : ByteArray) (x y : Nat → Nat) : mk (!bk) s y x = mk bk s x y := by cases bk <;> rfl
/-- what ask does -/
def AskOut (p : Pl) (d : Nat) (L : List Rw) (bk : Bool) (s : ByteArray) (f : Nat → Nat) (w : World) (e : Ending) (w' : World) : Prop :=
  KeptS p.S w w' ∧ ((∃ y L' d', askL p.F p.n s L d bk f = (some y, L', d') ∧ e = .returned (.tuple #[.agg (row 16 (b8 y)), .nilIface]) ∧ BookAt w' p d' L') ∨
  (∃ L' d' k x, askL p.F p.n s L d bk f = (none, L', d') ∧ e = .returned (.tuple #[.agg (row 16 (b8 fun _ => 0)), .iface 81 (.pointer (some ⟨k, 0, none⟩))]) ∧ Blk w' k 84 #[x, .iface 71 (.int .i64 13)] ∧ w.heap.size ≤ k ∧ BookAt w' p d' L'))
/-! generated -/
/-- the world with this map -/
def putM (w : World) (b : Nat) (bk : Bool) (L : List Rw) : World := setBlock w b (.map (ents bk L) L.length)
theorem blkP {w : World} {b g : Nat} {bk : Bool} {L : List Rw} {t : TypeId} {cs : Array Value} (h : Blk w b t cs) (hg : MapAt w g bk L) (bk' : Bool) (L' : List Rw) : Blk (putM w g bk' L') b t cs := blk_other h hg _
theorem mapP {w : World} {b g : Nat} {bk bk' : Bool} {L L' : List Rw} (h : MapAt w b bk L) (hg : MapAt w g bk' L') (hne : b ≠ g) (bk2 : Bool) (L2 : List Rw) : MapAt (putM w g bk2 L2) b bk L := h.other hg hne _
theorem wpl_putM {P : Program} {ops : Array Oper} {rest : List Oper} {o : Oper} {a : Act} {w : World} {Q : Exit → Act → World → Prop} {t : TypeId} {vm vx vy : Value} {w' : World} (hr : (Instr.mapUpdate t vm vx vy).run P w = .ok () w') (hgd : o.guard = none) (m x y : Operand) (ho : o.op = .mapUpdate t m x y) (hm : a.eval m = vm) (hx : a.eval x = vx) (hy : a.eval y = vy)
    (h : wpList P ops Q rest (a.put o.dst undef) w') : wpList P ops Q (o :: rest) a w := wpl_put hgd t m x y ho vm vx vy hm hx hy w' hr h
theorem put_newM {w : World} {b : Nat} {bk : Bool} {L : List Rw} (hb : MapAt w b bk L) (hg : ∀ r ∈ L, Good r) {s : ByteArray} {f g : Nat → Nat} (hs : s.size ≤ 32) (hf : ∀ i, i < 16 → f i < 256) (h : hit bk L s f = false) :
    (Instr.mapUpdate 94 (.map (some b)) (.agg (sideC s f)) (.agg (row 16 (b8 g)))).run Tryz.prog w = .ok () (putM w b bk (L ++ [mk bk s f g])) := put_new hb hg hs hf h
theorem BookAt.put2 {w : World} {p : Pl} {e : Nat} {L : List Rw} (h : BookAt w p e L) (bk : Bool) (L' : List Rw) (hi : Inv p.F p.n L' e) :
    BookAt (putM (putM w (p.m bk) bk L') (p.m (!bk)) (!bk) L') p e L' ∧ KeptS p.S w (putM (putM w (p.m bk) bk L') (p.m (!bk)) (!bk) L') := by
  have m1 : MapAt (putM w (p.m bk) bk L') (p.m bk) bk L' := (h.maps bk).put L'
  have m2 := mapP (h.maps (!bk)) (h.maps bk) (m_ne h.ne bk).symm bk L'
  have k1 : KeptS p.S w (putM w (p.m bk) bk L') := keptS_set (KeptS.refl _ _) (m_mem p bk) ⟨_, _, h.maps bk⟩
  have k2 : KeptS p.S w (putM (putM w (p.m bk) bk L') (p.m (!bk)) (!bk) L') := keptS_set k1 (m_mem p (!bk)) ⟨_, _, m2⟩
  refine ⟨⟨k2.blk h.book (h.free h.book (by decide)), blkP (blkP h.tape (h.maps bk) _ _) m2 _ _, k2.own h.own (fun g cs hb => h.free hb (by decide)), fun b => ?_, h.ne, hi, h.lo⟩, k2⟩
  by_cases hb : b = bk
  · subst hb; exact mapP m1 m2 (m_ne h.ne b) _ _
  · have : b = !bk := by cases b <;> cases bk <;> simp_all
    subst this; exact m2.put L'
theorem KeptS.setRow {S : List Nat} {a w : World} (h : KeptS S a w) {g : Nat} (hg : a.heap.size ≤ g) (cs : Array Value) : KeptS S a (w.setRow g cs) :=
  ⟨h.os, h.tape, h.output, (by simpa using h.size), fun j hj hs => (setRow_other w g j cs (by omega)).trans (h.block j hj hs)⟩
theorem BookAt.setRow {w : World} {p : Pl} {e : Nat} {L : List Rw} {g : Nat} {cs : Array Value} (h : BookAt w p e L) (hb : Blk w g 65 cs) (ds : Array Value) : BookAt (w.setRow g ds) p e L := by
  have hS := h.free hb (by decide)
  have k : KeptS [g] w (w.setRow g ds) := ⟨rfl, rfl, rfl, by simp, fun j _ hs => setRow_other w g j ds (by simpa using hs)⟩
  refine ⟨k.blk h.book (by simpa using hb.ne h.book (by decide)), k.blk h.tape (by simpa using hb.ne h.tape (by decide)), k.own h.own (fun g' cs' hb' => by simpa using hb.ne hb' (by decide)), fun bk => k.map (h.maps bk) ?_, h.ne, h.inv, h.lo⟩
  simpa using (h.maps bk).ne_blk hb
theorem drawNew_ok (p : Pl) (d : Nat) (L : List Rw) (bk : Bool) (s : ByteArray) (hs : s.size ≤ 32) (w : World) (h : BookAt w p d L) (j : Nat) (hd : drawTo p.F p.n (hit bk L s) d = (true, j)) :
    Calls Tryz.prog 119 #[.pointer (some ⟨p.gb, 0, none⟩), .string s, .map (some (p.m bk))] w fun e w' => e = .returned (.tuple #[.agg (row 16 (b8 fun i => p.F (j + i))), .nilIface]) ∧ Kept p.gt w w' ∧ BookAt w' p (j + 16) L := by
  obtain ⟨h1, h2, h3, _⟩ := drawTo_spec p.F p.n _ d h.inv.hd _ _ hd
  refine (drawNew_any p d L bk s hs w h).mono ?_
  rintro e w' ⟨hk, ⟨j', hj, rfl, ht⟩ | ⟨j', k, x, y, hj, _⟩⟩
  · rw [hd] at hj
    cases hj
    exact ⟨rfl, hk, h.tapeAt hk ht ⟨(h3 rfl).1, h.inv.hn, h.inv.hF, by have := h.inv.rows; omega, h.inv.good, h.inv.uniq⟩⟩
  · rw [hd] at hj
    cases hj
theorem drawNew_end (p : Pl) (d : Nat) (L : List Rw) (bk : Bool) (s : ByteArray) (hs : s.size ≤ 32) (w : World) (h : BookAt w p d L) (j : Nat) (hd : drawTo p.F p.n (hit bk L s) d = (false, j)) :
    Calls Tryz.prog 119 #[.pointer (some ⟨p.gb, 0, none⟩), .string s, .map (some (p.m bk))] w fun e w' => ∃ k x, e = .returned (.tuple #[.agg (row 16 (b8 fun _ => 0)), .iface 81 (.pointer (some ⟨k, 0, none⟩))]) ∧ Blk w' k 84 #[x, .iface 71 (.int .i64 13)] ∧ w.heap.size ≤ k ∧ Kept p.gt w w' ∧ BookAt w' p j L := by
  obtain ⟨h1, h2, _, _⟩ := drawTo_spec p.F p.n _ d h.inv.hd _ _ hd
  refine (drawNew_any p d L bk s hs w h).mono ?_
  rintro e w' ⟨hk, ⟨j', hj, rfl, ht⟩ | ⟨j', k, x, y, hj, rfl, rfl, hF, hks, ht⟩⟩
  · rw [hd] at hj
    cases hj
  · rw [hd] at hj
    cases hj
    exact ⟨k, x, rfl, hF, hks, hk, h.tapeAt hk ht ⟨h2, h.inv.hn, h.inv.hF, by have := h.inv.rows; omega, h.inv.good, h.inv.uniq⟩⟩
set_option maxRecDepth 100000 in
set_option maxHeartbeats 2000000 in
theorem ask_forth (p : Pl) (d : Nat) (L : List Rw) (s : ByteArray) (f : Nat → Nat) (hs : s.size ≤ 32) (hf : ∀ i, i < 16 → f i < 256) (w : World) (h : BookAt w p d L) :
    Calls Tryz.prog 101 #[.pointer (some ⟨p.gb, 0, none⟩), .agg (sideC s f), .bool false] w (AskOut p d L false s f w) := by
  have hB1 : Below w.heap.size w ((w.alloc (.cells (sideC s f) 155)).alloc (.cells (row 16 (b8 fun _ => 0)) 65)) := ((Below.refl _ _).alloc (Nat.le_refl _) _).alloc (by simp) _
  have H1 := hid (h.keep hB1)
  have H0 := hid h
  have hc1 : ((w.alloc (.cells (sideC s f) 155)).alloc (.cells (row 16 (b8 fun _ => 0)) 65)).cell? ⟨p.gb, 1, none⟩ = some (.map (some p.gf)) := H1.out.book.cell 1
  have hc2 : ((w.alloc (.cells (sideC s f) 155)).alloc (.cells (row 16 (b8 fun _ => 0)) 65)).cell? ⟨p.gb, 2, none⟩ = some (.map (some p.gk)) := H1.out.book.cell 2
  have hSd : Blk ((w.alloc (.cells (sideC s f) 155)).alloc (.cells (row 16 (b8 fun _ => 0)) 65)) w.heap.size 155 (sideC s f) := (Blk.fresh _ _ _).alloc _
  have hz : Blk ((w.alloc (.cells (sideC s f) 155)).alloc (.cells (row 16 (b8 fun _ => 0)) 65)) (w.heap.size + 1) 65 (row 16 (b8 fun _ => 0)) := by
    have := Blk.fresh (w.alloc (.cells (sideC s f) 155)) 65 (row 16 (b8 fun _ => 0))
    simpa using this
  clear h
  go_enter Tryz.func101, Tryz.ntmps101
  go_wp2_with (first
    | (with_reducible refine wpl_alloc rfl 65 rfl _ z16 ?_))
  generalize ((w.alloc (.cells (sideC s f) 155)).alloc (.cells (row 16 (b8 fun _ => 0)) 65)) = w1 at *
  go_quiet (fail)
  have HB2 := hid (hB1.trans (below_drewN (Below.refl w.heap.size w1) nq))
  have H2 := hid (H1.out.keep (below_drewN (Below.refl w1.heap.size w1) nq))
  have HS := hid (hSd.drewN nq)
  have HZ := hid (hz.drewN nq)
  clear hB1 H1 hc1 hc2 hSd hz
  generalize w1.drewN nq = w2 at *
  clear w1 nq
  have HM : Hid (MapAt w2 p.gf false L) := hid (H2.out.maps false)
  cases hfd : L.find? (hitR false s f) with
  | some r =>
    have Hr := hid hfd
    clear hfd
    go_wp2_with (first
      | (with_reducible refine wpl_loadS rfl 155 _ rfl _ rfl 155 _ HS.out _ Tryz.underlying155 (iSide s f) ?_)
      | (with_reducible refine wpl_val rfl _ (exec_lookup 94 _ _ rfl (.map (some p.gf)) (.agg (sideC s f)) _ rfl rfl (look_hit HM.out H2.out.inv.good H2.out.inv.uniq hs hf Hr.out)) ?_)
      | (with_reducible refine wpl_alloc rfl 65 rfl _ z16 ?_)
      | (with_reducible refine wpl_store_new rfl 65 _ _ rfl _ _ 16 _ rfl rfl 65 i16 (row_size _ _) ?_)
      | (with_reducible refine wpl_load rfl 65 _ rfl _ rfl 65 _ (Blk.fresh w2 65 _) 16 5 Tryz.underlying65 (i16' _) ?_)
      | (with_reducible refine wpl_store rfl 65 _ _ rfl _ _ rfl rfl 65 _ (HZ.out.alloc _) (i16' _) (by simp [row_size]) (one_b8 _ _) ?_))
    refine ret_row_tmp Tryz.results101 rfl (w.heap.size + 1) rfl _ rfl 65 16 _ ((HZ.out.alloc _).setRow _) 5 Tryz.underlying65 i16 ?_
    have hB3 := below_setRow' (HB2.out.alloc HB2.out.size (.cells (row 16 (b8 (fr (!false) r))) 65)) (Nat.le_succ w.heap.size) (row 16 (b8 (fr (!false) r)))
    exact ⟨KeptS.of _ hB3, .inl ⟨_, _, _, askL_old Hr.out, rfl, H0.out.keep hB3⟩⟩
  | none =>
    have Hr := hid hfd
    have Hm := hid (find_none_hit hfd)
    clear hfd
    have HB3 := hid (HB2.out.alloc HB2.out.size (.cells (row 16 (b8 fun _ => 0)) 65))
    have H3 := hid (H2.out.keep ((Below.refl _ _).alloc (Nat.le_refl _) (.cells (row 16 (b8 fun _ => 0)) 65)))
    have HS3 := hid (HS.out.alloc (.cells (row 16 (b8 fun _ => 0)) 65))
    have HZ3 := hid (HZ.out.alloc (.cells (row 16 (b8 fun _ => 0)) 65))
    have HC3 : Hid ((w2.alloc (.cells (row 16 (b8 fun _ => 0)) 65)).cell? ⟨w.heap.size, 0, none⟩ = some (.string s)) := hid ((HS3.out.cell 0).trans (sv_str s f))
    have hgt := hid (Nat.ne_of_gt H0.out.tape.lt)
    have hgt1 := hid (Nat.ne_of_gt (Nat.lt_succ_of_lt H0.out.tape.lt))
    rcases hdr : drawTo p.F p.n (hit (!false) L s) d with ⟨_ | _, j⟩
    · have Hd := hid hdr
      clear hdr
      go_wp2_with (first
        | (with_reducible refine wpl_loadS rfl 155 _ rfl _ rfl 155 _ HS.out _ Tryz.underlying155 (iSide s f) ?_)
        | (with_reducible refine wpl_val rfl _ (exec_lookup 94 _ _ rfl (.map (some p.gf)) (.agg (sideC s f)) _ rfl rfl (look_miss HM.out H2.out.inv.good hs hf Hm.out)) ?_)
        | (with_reducible refine wpl_alloc rfl 65 rfl _ z16 ?_)
        | (with_reducible refine wpl_store_new rfl 65 _ _ rfl _ _ 16 _ rfl rfl 65 i16 (row_size _ _) ?_)
        | (with_reducible refine wpl_ldstr rfl 9 _ rfl ⟨w.heap.size, 0, none⟩ rfl Tryz.underlying9 (.string s) HC3.out ?_)
        | (go_at_call 119; refine (drawNew_end p d L true s hs _ H3.out j Hd.out).mono ?_; rintro e w4 ⟨k, x, rfl, hF, hks, hk, hb4⟩; have HF := hid hF; have HK := hid hk; have Hks := hid hks; have H4 := hid hb4; have HZ4 := hid (hk.blk HZ3.out hgt1.out); clear hF hks hk hb4)
        | (with_reducible refine wpl_build0 rfl 65 rfl _ built16 ?_)
        | (with_reducible refine wpl_store rfl 65 _ _ rfl _ _ rfl rfl 65 _ (HZ4.out.alloc _) (i16' _) (by simp [row_size]) (one_b8 _ _) ?_))
      refine ret_row_tmp Tryz.results101 rfl (w.heap.size + 1) rfl _ rfl 65 16 _ ((HZ4.out.alloc _).setRow _) 5 Tryz.underlying65 i16 ?_
      have hks := Hks.out
      have hw3 := HB3.out.size
      have hkn : k ≠ w.heap.size + 1 := by have := HZ3.out.lt; omega
      refine ⟨((KeptS.of p.S HB3.out).trans ((KeptS.of1 HK.out (gt_mem p)).trans (KeptS.of _ ((Below.refl _ _).alloc (Nat.le_refl _) _)))).setRow (Nat.le_succ _) _, .inr ⟨L, j, k, x, askL_end Hr.out Hd.out, rfl, (HF.out.alloc _).otherRow _ _ hkn, by omega, ?_⟩⟩
      exact (H4.out.keep ((Below.refl _ _).alloc (Nat.le_refl _) _)).setRow (HZ4.out.alloc _) _
    · have Hd := hid hdr
      have HI := hid (askL_inv H0.out.inv hs hf (askL_new Hr.out hdr)).1
      have Hnew := hid ((drawTo_spec p.F p.n _ d H0.out.inv.hd _ _ hdr).2.2.1 rfl).2
      have Hy : Hid (∀ i, i < 16 → p.F (j + i) < 256) := hid ((askL_inv H0.out.inv hs hf (askL_new Hr.out hdr)).2.1 _ rfl)
      clear hdr
      go_wp2_with (first
        | (with_reducible refine wpl_loadS rfl 155 _ rfl _ rfl 155 _ HS.out _ Tryz.underlying155 (iSide s f) ?_)
        | (with_reducible refine wpl_val rfl _ (exec_lookup 94 _ _ rfl (.map (some p.gf)) (.agg (sideC s f)) _ rfl rfl (look_miss HM.out H2.out.inv.good hs hf Hm.out)) ?_)
        | (with_reducible refine wpl_alloc rfl 65 rfl _ z16 ?_)
        | (with_reducible refine wpl_store_new rfl 65 _ _ rfl _ _ 16 _ rfl rfl 65 i16 (row_size _ _) ?_)
        | (with_reducible refine wpl_ldstr rfl 9 _ rfl ⟨w.heap.size, 0, none⟩ rfl Tryz.underlying9 (.string s) HC3.out ?_))
      refine (drawNew_ok p d L true s hs _ H3.out j Hd.out).mono ?_
      rintro e w4 ⟨rfl, hk, hb4⟩
      have HK := hid hk
      have H5 := hid (hb4.keep ((Below.refl _ _).alloc (Nat.le_refl _) (.cells (row 16 (b8 fun i => p.F (j + i))) 65)))
      have HZ5 := hid ((hk.blk HZ3.out hgt1.out).alloc (.cells (row 16 (b8 fun i => p.F (j + i))) 65))
      have HS5 := hid ((hk.blk HS3.out hgt.out).alloc (.cells (row 16 (b8 fun i => p.F (j + i))) 65))
      have HT5 := hid (Blk.fresh w4 65 (row 16 (b8 fun i => p.F (j + i))))
      have HM5 : Hid (MapAt (w4.alloc (.cells (row 16 (b8 fun i => p.F (j + i))) 65)) p.gf false L) := hid (H5.out.maps false)
      have HN5 : Hid (MapAt (w4.alloc (.cells (row 16 (b8 fun i => p.F (j + i))) 65)) p.gk true L) := hid (H5.out.maps true)
      have HZ6 := hid (blkP HZ5.out HM5.out false (L ++ [mk false s f (fun i => p.F (j + i))]))
      have HS6 := hid (blkP HS5.out HM5.out false (L ++ [mk false s f (fun i => p.F (j + i))]))
      have HT6 := hid (blkP HT5.out HM5.out false (L ++ [mk false s f (fun i => p.F (j + i))]))
      have HN6 := hid (mapP HN5.out HM5.out (m_ne H0.out.ne false).symm false (L ++ [mk false s f (fun i => p.F (j + i))]))
      have HC6 : Hid ((putM (w4.alloc (.cells (row 16 (b8 fun i => p.F (j + i))) 65)) p.gf false (L ++ [mk false s f (fun i => p.F (j + i))])).cell? ⟨w.heap.size, 0, none⟩ = some (.string s)) := hid ((HS6.out.cell 0).trans (sv_str s f))
      have HB6 : Hid (∀ i, i < 16 → (putM (w4.alloc (.cells (row 16 (b8 fun i => p.F (j + i))) 65)) p.gf false (L ++ [mk false s f (fun i => p.F (j + i))])).cell? ⟨w.heap.size, 1 + i, none⟩ = some (.int .u8 ((f i : Nat) : Int))) := hid fun i hi => (HS6.out.cell (1 + i)).trans (sv_byte s f i hi)
      have HZ7 := hid (blkP HZ6.out HN6.out true (L ++ [mk false s f (fun i => p.F (j + i))]))
      have HT7 := hid (blkP HT6.out HN6.out true (L ++ [mk false s f (fun i => p.F (j + i))]))
      have hput := put_newM HN6.out H5.out.inv.good (g := f) hs Hy.out Hnew.out
      rw [show mk true s (fun i => p.F (j + i)) f = mk false s f (fun i => p.F (j + i)) from rfl] at hput
      have HP := hid hput
      have HP1 := hid (put_newM (g := fun i => p.F (j + i)) HM5.out H5.out.inv.good hs hf Hm.out)
      clear hk hb4 hput
      go_wp2_with (first
        | (with_reducible refine wpl_alloc rfl 65 rfl _ z16 ?_)
        | (with_reducible refine wpl_store_new rfl 65 _ _ rfl _ _ 16 _ rfl rfl 65 i16 (row_size _ _) ?_)
        | (with_reducible refine wpl_loadS rfl 155 _ rfl _ rfl 155 _ HS5.out _ Tryz.underlying155 (iSide s f) ?_)
        | (with_reducible refine wpl_load rfl 65 _ rfl _ rfl 65 _ HT5.out 16 5 Tryz.underlying65 (i16' _) ?_)
        | (with_reducible refine wpl_load rfl 65 _ rfl _ rfl 65 _ HT6.out 16 5 Tryz.underlying65 (i16' _) ?_)
        | (with_reducible refine wpl_load rfl 65 _ rfl _ rfl 65 _ HT7.out 16 5 Tryz.underlying65 (i16' _) ?_)
        | (with_reducible refine wpl_putM HP1.out rfl _ _ _ rfl rfl rfl rfl ?_)
        | (with_reducible refine wpl_ldstr rfl 9 _ rfl ⟨w.heap.size, 0, none⟩ rfl Tryz.underlying9 (.string s) HC6.out ?_)
        | (with_reducible refine wpl_build2 rfl 155 _ _ rfl (.string s) (.agg (row 16 (b8 fun i => p.F (j + i)))) rfl rfl _ (builtSide s (fun i => p.F (j + i))) ?_)
        | (with_reducible refine wpl_val rfl _ (exec_loadO 65 _ rfl w.heap.size 1 rfl 16 f HB6.out 5 Tryz.underlying65 i16) ?_)
        | (with_reducible refine wpl_putM HP.out rfl _ _ _ rfl rfl rfl rfl ?_)
        | (with_reducible refine wpl_store rfl 65 _ _ rfl _ _ rfl rfl 65 _ HZ7.out (i16' _) (by simp [row_size]) (one_b8 _ _) ?_))
      refine ret_row_tmp Tryz.results101 rfl (w.heap.size + 1) rfl _ rfl 65 16 _ (HZ7.out.setRow _) 5 Tryz.underlying65 i16 ?_
      obtain ⟨hb7, hk7⟩ := H5.out.put2 false (L ++ [mk false s f (fun i => p.F (j + i))]) HI.out
      have hk5 := (KeptS.of p.S HB3.out).trans ((KeptS.of1 HK.out (gt_mem p)).trans (KeptS.of p.S ((Below.refl w4.heap.size w4).alloc (Nat.le_refl _) (.cells (row 16 (b8 fun i => p.F (j + i))) 65))))
      exact ⟨(hk5.trans hk7).setRow (Nat.le_succ _) _, .inl ⟨_, _, _, askL_new Hr.out Hd.out, rfl, hb7.setRow HZ7.out _⟩⟩
set_option maxRecDepth 100000 in
set_option maxHeartbeats 2000000 in
theorem ask_back (p : Pl) (d : Nat) (L : List Rw) (s : ByteArray) (f : Nat → Nat) (hs : s.size ≤ 32) (hf : ∀ i, i < 16 → f i < 256) (w : World) (h : BookAt w p d L) :
    Calls Tryz.prog 101 #[.pointer (some ⟨p.gb, 0, none⟩), .agg (sideC s f), .bool true] w (AskOut p d L true s f w) := by
  have hB1 : Below w.heap.size w ((w.alloc (.cells (sideC s f) 155)).alloc (.cells (row 16 (b8 fun _ => 0)) 65)) := ((Below.refl _ _).alloc (Nat.le_refl _) _).alloc (by simp) _
  have H1 := hid (h.keep hB1)
  have H0 := hid h
  have hc1 : ((w.alloc (.cells (sideC s f) 155)).alloc (.cells (row 16 (b8 fun _ => 0)) 65)).cell? ⟨p.gb, 1, none⟩ = some (.map (some p.gf)) := H1.out.book.cell 1
  have hc2 : ((w.alloc (.cells (sideC s f) 155)).alloc (.cells (row 16 (b8 fun _ => 0)) 65)).cell? ⟨p.gb, 2, none⟩ = some (.map (some p.gk)) := H1.out.book.cell 2
  have hSd : Blk ((w.alloc (.cells (sideC s f) 155)).alloc (.cells (row 16 (b8 fun _ => 0)) 65)) w.heap.size 155 (sideC s f) := (Blk.fresh _ _ _).alloc _
  have hz : Blk ((w.alloc (.cells (sideC s f) 155)).alloc (.cells (row 16 (b8 fun _ => 0)) 65)) (w.heap.size + 1) 65 (row 16 (b8 fun _ => 0)) := by
    have := Blk.fresh (w.alloc (.cells (sideC s f) 155)) 65 (row 16 (b8 fun _ => 0))
    simpa using this
  clear h
  go_enter Tryz.func101, Tryz.ntmps101
  go_wp2_with (first
    | (with_reducible refine wpl_alloc rfl 65 rfl _ z16 ?_))
  generalize ((w.alloc (.cells (sideC s f) 155)).alloc (.cells (row 16 (b8 fun _ => 0)) 65)) = w1 at *
  go_quiet (fail)
  have HB2 := hid (hB1.trans (below_drewN (Below.refl w.heap.size w1) nq))
  have H2 := hid (H1.out.keep (below_drewN (Below.refl w1.heap.size w1) nq))
  have HS := hid (hSd.drewN nq)
  have HZ := hid (hz.drewN nq)
  clear hB1 H1 hc1 hc2 hSd hz
  generalize w1.drewN nq = w2 at *
  clear w1 nq
  have HM : Hid (MapAt w2 p.gk true L) := hid (H2.out.maps true)
  cases hfd : L.find? (hitR true s f) with
  | some r =>
    have Hr := hid hfd
    clear hfd
    go_wp2_with (first
      | (with_reducible refine wpl_loadS rfl 155 _ rfl _ rfl 155 _ HS.out _ Tryz.underlying155 (iSide s f) ?_)
      | (with_reducible refine wpl_val rfl _ (exec_lookup 94 _ _ rfl (.map (some p.gk)) (.agg (sideC s f)) _ rfl rfl (look_hit HM.out H2.out.inv.good H2.out.inv.uniq hs hf Hr.out)) ?_)
      | (with_reducible refine wpl_alloc rfl 65 rfl _ z16 ?_)
      | (with_reducible refine wpl_store_new rfl 65 _ _ rfl _ _ 16 _ rfl rfl 65 i16 (row_size _ _) ?_)
      | (with_reducible refine wpl_load rfl 65 _ rfl _ rfl 65 _ (Blk.fresh w2 65 _) 16 5 Tryz.underlying65 (i16' _) ?_)
      | (with_reducible refine wpl_store rfl 65 _ _ rfl _ _ rfl rfl 65 _ (HZ.out.alloc _) (i16' _) (by simp [row_size]) (one_b8 _ _) ?_))
    refine ret_row_tmp Tryz.results101 rfl (w.heap.size + 1) rfl _ rfl 65 16 _ ((HZ.out.alloc _).setRow _) 5 Tryz.underlying65 i16 ?_
    have hB3 := below_setRow' (HB2.out.alloc HB2.out.size (.cells (row 16 (b8 (fr (!true) r))) 65)) (Nat.le_succ w.heap.size) (row 16 (b8 (fr (!true) r)))
    exact ⟨KeptS.of _ hB3, .inl ⟨_, _, _, askL_old Hr.out, rfl, H0.out.keep hB3⟩⟩
  | none =>
    have Hr := hid hfd
    have Hm := hid (find_none_hit hfd)
    clear hfd
    have HB3 := hid (HB2.out.alloc HB2.out.size (.cells (row 16 (b8 fun _ => 0)) 65))
    have H3 := hid (H2.out.keep ((Below.refl _ _).alloc (Nat.le_refl _) (.cells (row 16 (b8 fun _ => 0)) 65)))
    have HS3 := hid (HS.out.alloc (.cells (row 16 (b8 fun _ => 0)) 65))
    have HZ3 := hid (HZ.out.alloc (.cells (row 16 (b8 fun _ => 0)) 65))
    have HC3 : Hid ((w2.alloc (.cells (row 16 (b8 fun _ => 0)) 65)).cell? ⟨w.heap.size, 0, none⟩ = some (.string s)) := hid ((HS3.out.cell 0).trans (sv_str s f))
    have hgt := hid (Nat.ne_of_gt H0.out.tape.lt)
    have hgt1 := hid (Nat.ne_of_gt (Nat.lt_succ_of_lt H0.out.tape.lt))
    rcases hdr : drawTo p.F p.n (hit (!true) L s) d with ⟨_ | _, j⟩
    · have Hd := hid hdr
      clear hdr
      go_wp2_with (first
        | (with_reducible refine wpl_loadS rfl 155 _ rfl _ rfl 155 _ HS.out _ Tryz.underlying155 (iSide s f) ?_)
        | (with_reducible refine wpl_val rfl _ (exec_lookup 94 _ _ rfl (.map (some p.gk)) (.agg (sideC s f)) _ rfl rfl (look_miss HM.out H2.out.inv.good hs hf Hm.out)) ?_)
        | (with_reducible refine wpl_alloc rfl 65 rfl _ z16 ?_)
        | (with_reducible refine wpl_store_new rfl 65 _ _ rfl _ _ 16 _ rfl rfl 65 i16 (row_size _ _) ?_)
        | (with_reducible refine wpl_ldstr rfl 9 _ rfl ⟨w.heap.size, 0, none⟩ rfl Tryz.underlying9 (.string s) HC3.out ?_)
        | (go_at_call 119; refine (drawNew_end p d L false s hs _ H3.out j Hd.out).mono ?_; rintro e w4 ⟨k, x, rfl, hF, hks, hk, hb4⟩; have HF := hid hF; have HK := hid hk; have Hks := hid hks; have H4 := hid hb4; have HZ4 := hid (hk.blk HZ3.out hgt1.out); clear hF hks hk hb4)
        | (with_reducible refine wpl_build0 rfl 65 rfl _ built16 ?_)
        | (with_reducible refine wpl_store rfl 65 _ _ rfl _ _ rfl rfl 65 _ (HZ4.out.alloc _) (i16' _) (by simp [row_size]) (one_b8 _ _) ?_))
      refine ret_row_tmp Tryz.results101 rfl (w.heap.size + 1) rfl _ rfl 65 16 _ ((HZ4.out.alloc _).setRow _) 5 Tryz.underlying65 i16 ?_
      have hks := Hks.out
      have hw3 := HB3.out.size
      have hkn : k ≠ w.heap.size + 1 := by have := HZ3.out.lt; omega
      refine ⟨((KeptS.of p.S HB3.out).trans ((KeptS.of1 HK.out (gt_mem p)).trans (KeptS.of _ ((Below.refl _ _).alloc (Nat.le_refl _) _)))).setRow (Nat.le_succ _) _, .inr ⟨L, j, k, x, askL_end Hr.out Hd.out, rfl, (HF.out.alloc _).otherRow _ _ hkn, by omega, ?_⟩⟩
      exact (H4.out.keep ((Below.refl _ _).alloc (Nat.le_refl _) _)).setRow (HZ4.out.alloc _) _
    · have Hd := hid hdr
      have HI := hid (askL_inv H0.out.inv hs hf (askL_new Hr.out hdr)).1
      have Hnew := hid ((drawTo_spec p.F p.n _ d H0.out.inv.hd _ _ hdr).2.2.1 rfl).2
      have Hy : Hid (∀ i, i < 16 → p.F (j + i) < 256) := hid ((askL_inv H0.out.inv hs hf (askL_new Hr.out hdr)).2.1 _ rfl)
      clear hdr
      go_wp2_with (first
        | (with_reducible refine wpl_loadS rfl 155 _ rfl _ rfl 155 _ HS.out _ Tryz.underlying155 (iSide s f) ?_)
        | (with_reducible refine wpl_val rfl _ (exec_lookup 94 _ _ rfl (.map (some p.gk)) (.agg (sideC s f)) _ rfl rfl (look_miss HM.out H2.out.inv.good hs hf Hm.out)) ?_)
        | (with_reducible refine wpl_alloc rfl 65 rfl _ z16 ?_)
        | (with_reducible refine wpl_store_new rfl 65 _ _ rfl _ _ 16 _ rfl rfl 65 i16 (row_size _ _) ?_)
        | (with_reducible refine wpl_ldstr rfl 9 _ rfl ⟨w.heap.size, 0, none⟩ rfl Tryz.underlying9 (.string s) HC3.out ?_))
      refine (drawNew_ok p d L false s hs _ H3.out j Hd.out).mono ?_
      rintro e w4 ⟨rfl, hk, hb4⟩
      have HK := hid hk
      have H5 := hid (hb4.keep ((Below.refl _ _).alloc (Nat.le_refl _) (.cells (row 16 (b8 fun i => p.F (j + i))) 65)))
      have HZ5 := hid ((hk.blk HZ3.out hgt1.out).alloc (.cells (row 16 (b8 fun i => p.F (j + i))) 65))
      have HS5 := hid ((hk.blk HS3.out hgt.out).alloc (.cells (row 16 (b8 fun i => p.F (j + i))) 65))
      have HT5 := hid (Blk.fresh w4 65 (row 16 (b8 fun i => p.F (j + i))))
      have HM5 : Hid (MapAt (w4.alloc (.cells (row 16 (b8 fun i => p.F (j + i))) 65)) p.gk true L) := hid (H5.out.maps true)
      have HN5 : Hid (MapAt (w4.alloc (.cells (row 16 (b8 fun i => p.F (j + i))) 65)) p.gf false L) := hid (H5.out.maps false)
      have HZ6 := hid (blkP HZ5.out HM5.out true (L ++ [mk true s f (fun i => p.F (j + i))]))
      have HS6 := hid (blkP HS5.out HM5.out true (L ++ [mk true s f (fun i => p.F (j + i))]))
      have HT6 := hid (blkP HT5.out HM5.out true (L ++ [mk true s f (fun i => p.F (j + i))]))
      have HN6 := hid (mapP HN5.out HM5.out (m_ne H0.out.ne true).symm true (L ++ [mk true s f (fun i => p.F (j + i))]))
      have HC6 : Hid ((putM (w4.alloc (.cells (row 16 (b8 fun i => p.F (j + i))) 65)) p.gk true (L ++ [mk true s f (fun i => p.F (j + i))])).cell? ⟨w.heap.size, 0, none⟩ = some (.string s)) := hid ((HS6.out.cell 0).trans (sv_str s f))
      have HB6 : Hid (∀ i, i < 16 → (putM (w4.alloc (.cells (row 16 (b8 fun i => p.F (j + i))) 65)) p.gk true (L ++ [mk true s f (fun i => p.F (j + i))])).cell? ⟨w.heap.size, 1 + i, none⟩ = some (.int .u8 ((f i : Nat) : Int))) := hid fun i hi => (HS6.out.cell (1 + i)).trans (sv_byte s f i hi)
      have HZ7 := hid (blkP HZ6.out HN6.out false (L ++ [mk true s f (fun i => p.F (j + i))]))
      have HT7 := hid (blkP HT6.out HN6.out false (L ++ [mk true s f (fun i => p.F (j + i))]))
      have hput := put_newM HN6.out H5.out.inv.good (g := f) hs Hy.out Hnew.out
      rw [show mk false s (fun i => p.F (j + i)) f = mk true s f (fun i => p.F (j + i)) from rfl] at hput
      have HP := hid hput
      have HP1 := hid (put_newM (g := fun i => p.F (j + i)) HM5.out H5.out.inv.good hs hf Hm.out)
      clear hk hb4 hput
      go_wp2_with (first
        | (with_reducible refine wpl_alloc rfl 65 rfl _ z16 ?_)
        | (with_reducible refine wpl_store_new rfl 65 _ _ rfl _ _ 16 _ rfl rfl 65 i16 (row_size _ _) ?_)
        | (with_reducible refine wpl_loadS rfl 155 _ rfl _ rfl 155 _ HS5.out _ Tryz.underlying155 (iSide s f) ?_)
        | (with_reducible refine wpl_load rfl 65 _ rfl _ rfl 65 _ HT5.out 16 5 Tryz.underlying65 (i16' _) ?_)
        | (with_reducible refine wpl_load rfl 65 _ rfl _ rfl 65 _ HT6.out 16 5 Tryz.underlying65 (i16' _) ?_)
        | (with_reducible refine wpl_load rfl 65 _ rfl _ rfl 65 _ HT7.out 16 5 Tryz.underlying65 (i16' _) ?_)
        | (with_reducible refine wpl_putM HP1.out rfl _ _ _ rfl rfl rfl rfl ?_)
        | (with_reducible refine wpl_ldstr rfl 9 _ rfl ⟨w.heap.size, 0, none⟩ rfl Tryz.underlying9 (.string s) HC6.out ?_)
        | (with_reducible refine wpl_build2 rfl 155 _ _ rfl (.string s) (.agg (row 16 (b8 fun i => p.F (j + i)))) rfl rfl _ (builtSide s (fun i => p.F (j + i))) ?_)
        | (with_reducible refine wpl_val rfl _ (exec_loadO 65 _ rfl w.heap.size 1 rfl 16 f HB6.out 5 Tryz.underlying65 i16) ?_)
        | (with_reducible refine wpl_putM HP.out rfl _ _ _ rfl rfl rfl rfl ?_)
        | (with_reducible refine wpl_store rfl 65 _ _ rfl _ _ rfl rfl 65 _ HZ7.out (i16' _) (by simp [row_size]) (one_b8 _ _) ?_))
      refine ret_row_tmp Tryz.results101 rfl (w.heap.size + 1) rfl _ rfl 65 16 _ (HZ7.out.setRow _) 5 Tryz.underlying65 i16 ?_
      obtain ⟨hb7, hk7⟩ := H5.out.put2 true (L ++ [mk true s f (fun i => p.F (j + i))]) HI.out
      have hk5 := (KeptS.of p.S HB3.out).trans ((KeptS.of1 HK.out (gt_mem p)).trans (KeptS.of p.S ((Below.refl w4.heap.size w4).alloc (Nat.le_refl _) (.cells (row 16 (b8 fun i => p.F (j + i))) 65))))
      exact ⟨(hk5.trans hk7).setRow (Nat.le_succ _) _, .inl ⟨_, _, _, askL_new Hr.out Hd.out, rfl, hb7.setRow HZ7.out _⟩⟩
theorem ask_any (p : Pl) (d : Nat) (L : List Rw) (bk : Bool) (s : ByteArray) (f : Nat → Nat) (hs : s.size ≤ 32) (hf : ∀ i, i < 16 → f i < 256) (w : World) (h : BookAt w p d L) :
    Calls Tryz.prog 101 #[.pointer (some ⟨p.gb, 0, none⟩), .agg (sideC s f), .bool bk] w (AskOut p d L bk s f w) := by
  cases bk
  · exact ask_forth p d L s f hs hf w h
  · exact ask_back p d L s f hs hf w h
end Go.Proofs.YtaeleohjikheiaaGreatDoor.Bk
