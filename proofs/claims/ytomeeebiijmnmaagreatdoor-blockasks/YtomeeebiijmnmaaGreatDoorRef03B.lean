/-
  What the document's own Block of layer 3 returns: a contract over the loaded program.
-/
import Derived.Test.YtomeeebiijmnmaaGreatDoorRef03N
import Derived.Test.YtomeeebiijmnmaaGreatDoorDesBlock
import Derived.Test.YtomeeebiijmnmaaGreatDoorConcat
namespace Go.Proofs.YtomeeebiijmnmaaGreatDoor.Des
open Go.ChangeShapes Go.WideShapes Go.ChangeAt Go.RowKit Mem
theorem iSI2 : (Tryz.prog.info? 63).map (·.size) = some 1 := by kernel_rfl
theorem mk64 (w : World) : (Instr.makeSlice 63 (.int .i64 64) (.int .i64 64)).run Tryz.prog w = .ok (.slice (some ⟨w.heap.size, 0, none⟩) 64 64) (w.alloc (.cells (row 64 (iv .i64 fun _ => 0)) 3)) := by kernel_rfl
theorem wpl_mk {P : Program} {ops : Array Oper} {rest : List Oper} {o : Oper} {a : Act} {w : World} {Q : Exit → Act → World → Prop} (hgd : o.guard = none) (t : TypeId) (l c : Operand) (ho : o.op = .makeSlice t l c) (lv cv : Value) (hl : a.eval l = lv) (hc : a.eval c = cv) (v : Value) (w' : World) (hr : (Instr.makeSlice t lv cv).run P w = .ok v w')
    (h : wpList P ops Q rest (a.put o.dst v) w') : wpList P ops Q (o :: rest) a w := by
  refine wpList_plain hgd fun _ hK => ?_
  unfold Oper.wp execOp
  simp only [ho, hl, hc, hr, Sem.run_bind, Sem.run_pure, Result.andThen_ok]
  exact hK _ _ h
theorem wp_st {P : Program} {o : Oper} {a : Act} {w : World} {K : Act → World → Prop} {Q : Exit → Act → World → Prop} (ty : TypeId) (x y : Operand) (ho : o.op = .store ty x y) (p : Addr) (hx : a.eval x = .pointer (some p)) (kd : IntKind) (n : Int) (hy : a.eval y = .int kd n) (hs : (P.info? ty).map (·.size) = some 1) (v : Value) (hc : w.cell? p = some v) (hf : w.frozen? p = false)
    (h : K (a.put o.dst undef) (w.setCell p (.int kd n))) : o.wp P a w K Q := by
  have hr : (Instr.storeAt ty (.pointer (some p)) (.int kd n)).run P w = .ok () (w.setCell p (.int kd n)) := by
    have h1 : (store p (.int kd n)).run P w = .ok () (w.setCell p (.int kd n)) := by rw [run_store P w p _ _ (by rfl)]; simp [hc, hf]
    have h0 : p.add 0 = p := by simp [Addr.add]
    simp [Instr.storeAt, Instr.sureAddr, storeVar, Value.cells, Sem.run_bind, run_size hs, storeCells, h0, h1]
  unfold Oper.wp execOp
  simp only [ho, hx, hy, Sem.run_bind, hr, Sem.run_pure, Result.andThen_ok]
  exact h
theorem join64 (l r i : Nat) (hi : i < 64) : catV 32 (catV 0 (iv .i64 fun _ => 0) (iv .i64 (bitL 32 l))) (iv .i64 (bitL 32 r)) i = iv .i64 (cat 32 (bitL 32 l) (bitL 32 r)) i := by
  unfold catV iv cat
  by_cases h : i < 32
  · rw [if_pos h, if_pos h, if_neg (by omega), Nat.sub_zero]
  · rw [if_neg h, if_neg h]
theorem exec_sl01 {P : Program} {o : Oper} {a : Act} {w : World} (ty : TypeId) (x ix : Operand) (ho : o.op = .indexAddr ty x ix) (g n c : Nat) (hx : a.eval x = .slice (some ⟨g, 0, none⟩) n c) (kd : IntKind) (z : Int) (hix : a.eval ix = .int kd z) (k : Nat) (hz : z = (k : Int))
    (e : TypeId) (hu : P.underlying ty = some (.slice e)) (hk : k < n) (hs : (P.info? e).map (·.size) = some 1) : (execOp a.eval o).run P w = .ok (.value (.pointer (some ⟨g, k, none⟩))) w := by
  have := exec_sl1 (P := P) (w := w) ty x ix ho ⟨g, 0, none⟩ n c hx kd z hix k hz e hu hk hs
  rwa [add_zero_off] at this
theorem up_zero (y j : Nat) : bitL 64 (up ip 64 y 0) j = 0 := by unfold bitL up; simp
theorem rounds_rk (n r : Nat) : rounds n r = rkOf (pk pc1 64 n 56) r := rfl
set_option linter.unusedSimpArgs false in
set_option maxRecDepth 100000 in
set_option maxHeartbeats 8000000 in
theorem rblock_fwd (A1 A2 : Option Addr) (c1 c2 : Nat) (f b : Nat → Nat) (hf : By8 f) (hb : By8 b) (w : World) (hR1 : Reads w w.heap.size A1 8 f) (hR2 : Reads w w.heap.size A2 8 b) :
    Calls Tryz.prog 57 #[.slice A1 8 c1, .slice A2 8 c2, .bool false] w fun e w' => ∃ A' c', e = .returned (.slice A' 8 c') ∧ 8 ≤ c' ∧ Lst w' 5 A' 8 (iv .u8 (des f b false)) ∧ Below w.heap.size w w' := by
  have Hf := hid hf
  have Hb := hid hb
  clear hf hb
  go_enter Tryz.func57, Tryz.ntmps57
  go_wp2_with fail
  refine (keys_any A1 c1 f Hf.out _ hR1).mono ?_
  rintro e w1 ⟨Ak, ck, V, rfl, hLk, hKk, hB1⟩
  obtain ⟨ak, rfl, hak⟩ := hLk.some
  have hR3 := (hR2.below hB1).more hB1.size
  clear hR1 hR2
  go_wp2_with fail
  refine (bits_any A2 8 c2 b (by omega) (by omega) Hb.out _ hR3).mono ?_
  rintro e w2 ⟨A3, c3, rfl, hc3, hL3, hB2⟩
  have hL3b : Lst w2 3 A3 64 (iv .i64 (bitL 64 (num b 8))) := hL3.ext (fun i hi => ivx (bitL_bits Hb.out i hi))
  clear hL3 hR3
  go_wp2_with fail
  refine (permute_any _ 64 ip (by decide +kernel) A3 64 c3 _ (by omega) (by omega) ip_range _ hL3b).mono ?_
  rintro e w3 ⟨A4, c4, rfl, hc4, hL4, hB3⟩
  have hL4b : Lst w3 3 A4 64 (iv .i64 (bitL 64 (pk ip 64 (num b 8) 64))) := hL4.ext (fun i hi => ivx (bitL_pk ip 64 _ 64 i hi (ip_range i hi)))
  have hLk3 := (hLk.below hB2 (Nat.le_refl _)).below hB3 (Nat.le_refl _)
  have hKk3 := (hKk.below hB2).below hB3
  have hB4 := (hB1.trans (hB2.mono hB1.size))
  have hB5 := hB4.trans (hB3.mono hB4.size)
  have hak3 : ak.block < w3.heap.size := by have := hB2.size; have := hB3.size; omega
  clear hL3b hL4 hLk hKk hB1 hB2 hB3 hB4 hc3 hak
  have hP : pk ip 64 (num b 8) 64 < 18446744073709551616 := pk_lt ip 64 (num b 8) 64
  obtain ⟨B, HBe⟩ : ∃ B, Hid (pk ip 64 (num b 8) 64 = B) := ⟨_, hid rfl⟩
  rw [HBe.out] at hL4b hP
  obtain ⟨Bk, HBk⟩ : ∃ Bk, Hid (pk pc1 64 (num f 8) 56 = Bk) := ⟨_, hid rfl⟩
  rw [HBk.out] at hKk3
  obtain ⟨K, HK⟩ : ∃ K : Nat → Nat, Hid (∀ i, i < 16 → K i = rkOf Bk (i)) := ⟨fun i => rkOf Bk (i), hid (fun _ _ => rfl)⟩
  have Hdes : Hid (∀ i, des f b false i = byt (fin (fe K (B / 4294967296) (B % 4294967296) 16)) i) := hid (fun i => by
    show byt (blk (kk f false) (num b 8)) i = _
    rw [blk_ext _ (fun j hj => (show kk f false j = K j by rw [HK.out j hj, ← HBk.out]; rfl))]
    unfold blk
    rw [HBe.out])
  obtain ⟨a4, rfl, ha4⟩ := hL4b.some
  have t1 : (32 : Int) ≤ (c4 : Int) := by omega
  have t2 : ¬ c4 = 32 := by omega
  have t3 : (64 : Int) ≤ (c4 : Int) := by omega
  have hLl : Lst w3 3 (some a4) 32 (iv .i64 (bitL 32 (fe K (B / 4294967296) (B % 4294967296) 0).1)) := (hL4b.less (by omega)).ext (fun i hi => ivx (half_left B i hi))
  have hLr : Lst w3 3 (some ⟨a4.block, a4.off + 32, none⟩) 32 (iv .i64 (bitL 32 (fe K (B / 4294967296) (B % 4294967296) 0).2)) := (hL4b.cut 32 (by omega)).ext (fun i hi => ivx (half_right B i hi))
  have HF := hid (fun i => fe_lt K (l := B / 4294967296) (r := B % 4294967296) (by omega) (by omega) i)
  clear hL4b
  go_wp2_with fail
  go_loopw [9, 10, 11] (fun vl vr vn wr => ∃ (n : Nat) (al : Addr) (cl : Nat) (ar : Addr) (cr : Nat), n ≤ 16 ∧ 32 ≤ cl ∧ 32 ≤ cr ∧ vl = .slice (some al) 32 cl ∧ vr = .slice (some ar) 32 cr ∧ vn = .int .i64 n ∧ Lst wr 3 (some al) 32 (iv .i64 (bitL 32 (fe K (B / 4294967296) (B % 4294967296) n).1)) ∧ Lst wr 3 (some ar) 32 (iv .i64 (bitL 32 (fe K (B / 4294967296) (B % 4294967296) n).2)) ∧ Lst wr 63 (some ak) 16 V ∧ Kys wr Bk 16 V ∧ Below w.heap.size w wr) (fun _ _ vn _ => 16 - (intOf vn).toNat)
  case atStart => exact ⟨0, a4, c4, ⟨a4.block, a4.off + 32, none⟩, c4 - 32, by omega, by omega, by omega, rfl, rfl, rfl, hLl, hLr, hLk3, hKk3, hB5⟩
  case round =>
    clear hLl hLr hLk3 hKk3 hB5 hak3 ha4
    obtain ⟨n, al, cl, ar, cr, hn, hcl, hcr, rfl, rfl, rfl, hLl, hLr, hLk, hKk, hB⟩ := hrel
    rename World => wo
    by_cases hlt : n < 16
    · obtain ⟨An, cn, hV1, hcn, hLn⟩ := hKk n hlt
      obtain ⟨Am, cm, hV2, hcm, hLm⟩ := hKk (15 - n) (by omega)
      have KC1 : Hid (wo.cell? (ak.add n) = some (.slice An 48 cn)) := hid ((hLk.at n hlt).trans (by rw [hV1]))
      have KC2 : Hid (wo.cell? (ak.add (15 - n)) = some (.slice Am 48 cm)) := hid ((hLk.at (15 - n) (by omega)).trans (by rw [hV2]))
      obtain ⟨hxl, hxr⟩ := HF.out n
      have H1 : Hid ((fe K (B / 4294967296) (B % 4294967296) (n + 1)).1 = (fe K (B / 4294967296) (B % 4294967296) n).2) := hid rfl
      have H2 : Hid ((fe K (B / 4294967296) (B % 4294967296) (n + 1)).2 = (fe K (B / 4294967296) (B % 4294967296) n).1 ^^^ ff (fe K (B / 4294967296) (B % 4294967296) n).2 (K n)) := hid rfl
      have HKn := hid (HK.out n hlt)
      generalize (fe K (B / 4294967296) (B % 4294967296) n).1 = xl at *
      generalize (fe K (B / 4294967296) (B % 4294967296) n).2 = xr at *
      go_wp2_with (first
        | (with_reducible refine wpl_sl1 rfl 131 _ _ rfl ak 16 ck rfl .i64 _ rfl n rfl 63 Tryz.underlying131 hlt iSI2 ?_)
        | (with_reducible refine wpl_lds rfl 63 _ rfl _ rfl 3 Tryz.underlying63 _ KC1.out ?_))
      refine (mix_any (some ar) An cr cn (bitL 32 xr) (bitL 48 (rkOf Bk (n))) (fun _ _ => bitL_lt _ _ _) (fun _ _ => bitL_lt _ _ _) _ hLr hLn).mono ?_
      rintro e w6 ⟨Af, cf, rfl, hcf, hLf0, hB6⟩
      have hLf : Lst w6 3 Af 32 (iv .i64 (bitL 32 (ff xr (K n)))) := hLf0.ext (fun i hi => ivx ((mix_bitL xr _ i hxr hi).trans (by rw [HKn.out])))
      have hLl6 := hLl.below hB6 (Nat.le_refl _)
      have hLr6 := hLr.below hB6 (Nat.le_refl _)
      have hLk6 := hLk.below hB6 (Nat.le_refl _)
      have hKk6 := hKk.below hB6
      have hB7 := hB.trans (hB6.mono hB.size)
      clear hLf0 hLl hLr hLk hKk hB hB6 KC1 KC2 hLn hLm hV1 hV2
      obtain ⟨af, rfl, haf⟩ := hLf.some
      generalize ff xr (K n) = xf at *
      have HLl6 := hid hLl6
      have HLf := hid hLf
      go_wp2_with fail
      generalize Value.bool (decide ((n : Int) < 16)) = vb at *
      go_loopw [14, 15] (fun vx vq wr => ∃ q : Nat, q ≤ 32 ∧ OwnV wr w6.heap.size 3 vx q (iv .i64 (bitL 32 (xl ^^^ xf))) ∧ vq = .int .i64 q ∧ Below w6.heap.size w6 wr) (fun _ vq _ => 32 - (intOf vq).toNat)
      case atStart => exact ⟨0, by omega, OwnV.nil _ _ _ _, rfl, Below.refl _ _⟩
      case round =>
        obtain ⟨q, hq, ho6, rfl, hB6⟩ := hrel
        by_cases hlt2 : q < 32
        · have C1 : Hid (∀ W, Below w6.heap.size wr W → W.cell? (al.add q) = some (.int .i64 ((bitL 32 xl q : Nat) : Int))) := hid (fun W hW => (HLl6.out.below (hB6.trans hW) (Nat.le_refl _)).at q hlt2)
          have C2 : Hid (∀ W, Below w6.heap.size wr W → W.cell? (af.add q) = some (.int .i64 ((bitL 32 xf q : Nat) : Int))) := hid (fun W hW => (HLf.out.below (hB6.trans hW) (Nat.le_refl _)).at q hlt2)
          have HX : Hid (bits .xor .i64 ((bitL 32 xl q : Nat) : Int) ((bitL 32 xf q : Nat) : Int) = ((bitL 32 (xl ^^^ xf) q : Nat) : Int)) := hid (by
            have p1 := bitL_lt 32 xl q
            have p2 := bitL_lt 32 xf q
            rw [i64_xor_nat _ _ (by omega) (by omega), bitL_xor])
          go_wp2_with fail
          refine wp_region_held_drew (S := fun W => Below w6.heap.size wr W) (by kernel_rfl) (Below.refl _ _).drew (fun hS0 => ?_)
          refine wpAnyH_take (i := 0) (v := u14) rfl (by kernel_rfl) (by kernel_rfl) (by kernel_rfl) (fun _ _ _ h => h) (Or.inl ⟨rfl, fun _ _ => exec_move _ rfl _ rfl⟩) hS0 ?_
          (try simp only [Act.put, List.getElem_toArray, List.getElem_cons_zero, List.getElem_cons_succ, List.setIfInBounds_toArray, List.set_cons_zero, List.set_cons_succ])
          refine wpAnyH_take (i := 1) (v := .slice (some al) 32 cl) rfl (by kernel_rfl) (by kernel_rfl) (by kernel_rfl) (fun _ _ _ h => h) (Or.inl ⟨rfl, fun _ _ => exec_move _ rfl _ rfl⟩) hS0 ?_
          (try simp only [Act.put, List.getElem_toArray, List.getElem_cons_zero, List.getElem_cons_succ, List.setIfInBounds_toArray, List.set_cons_zero, List.set_cons_succ])
          refine wpAnyH_take (i := 2) (v := .int .i64 (q : Int)) rfl (by kernel_rfl) (by kernel_rfl) (by kernel_rfl) (fun _ _ _ h => h) (Or.inl ⟨rfl, fun _ _ => exec_move _ rfl _ rfl⟩) hS0 ?_
          (try simp only [Act.put, List.getElem_toArray, List.getElem_cons_zero, List.getElem_cons_succ, List.setIfInBounds_toArray, List.set_cons_zero, List.set_cons_succ])
          refine wpAnyH_take (i := 3) (v := .pointer (some (al.add q))) rfl (by kernel_rfl) (by kernel_rfl) (by kernel_rfl) (fun _ _ _ h => h) (Or.inl ⟨rfl, fun _ _ => exec_sl1 63 _ _ rfl al 32 cl rfl .i64 _ rfl q rfl 3 Tryz.underlying63 hlt2 iI⟩) hS0 ?_
          (try simp only [Act.put, List.getElem_toArray, List.getElem_cons_zero, List.getElem_cons_succ, List.setIfInBounds_toArray, List.set_cons_zero, List.set_cons_succ])
          refine wpAnyH_take (i := 4) (v := .int .i64 ((bitL 32 xl q : Nat) : Int)) rfl (by kernel_rfl) (by kernel_rfl) (by kernel_rfl) (fun _ _ _ h => h) (Or.inl ⟨rfl, fun W hW => exec_ld 3 _ rfl _ rfl .i64 Tryz.underlying3 _ (C1.out W hW)⟩) hS0 ?_
          (try simp only [Act.put, List.getElem_toArray, List.getElem_cons_zero, List.getElem_cons_succ, List.setIfInBounds_toArray, List.set_cons_zero, List.set_cons_succ])
          refine wpAnyH_take (i := 5) (v := .slice (some af) 32 cf) rfl (by kernel_rfl) (by kernel_rfl) (by kernel_rfl) (fun _ _ _ h => h) (Or.inl ⟨rfl, fun _ _ => exec_move _ rfl _ rfl⟩) hS0 ?_
          (try simp only [Act.put, List.getElem_toArray, List.getElem_cons_zero, List.getElem_cons_succ, List.setIfInBounds_toArray, List.set_cons_zero, List.set_cons_succ])
          refine wpAnyH_take (i := 6) (v := .int .i64 (q : Int)) rfl (by kernel_rfl) (by kernel_rfl) (by kernel_rfl) (fun _ _ _ h => h) (Or.inl ⟨rfl, fun _ _ => exec_move _ rfl _ rfl⟩) hS0 ?_
          (try simp only [Act.put, List.getElem_toArray, List.getElem_cons_zero, List.getElem_cons_succ, List.setIfInBounds_toArray, List.set_cons_zero, List.set_cons_succ])
          refine wpAnyH_take (i := 7) (v := .pointer (some (af.add q))) rfl (by kernel_rfl) (by kernel_rfl) (by kernel_rfl) (fun _ _ _ h => h) (Or.inl ⟨rfl, fun _ _ => exec_sl1 63 _ _ rfl af 32 cf rfl .i64 _ rfl q rfl 3 Tryz.underlying63 hlt2 iI⟩) hS0 ?_
          (try simp only [Act.put, List.getElem_toArray, List.getElem_cons_zero, List.getElem_cons_succ, List.setIfInBounds_toArray, List.set_cons_zero, List.set_cons_succ])
          refine wpAnyH_take (i := 8) (v := .int .i64 ((bitL 32 xf q : Nat) : Int)) rfl (by kernel_rfl) (by kernel_rfl) (by kernel_rfl) (fun _ _ _ h => h) (Or.inl ⟨rfl, fun W hW => exec_ld 3 _ rfl _ rfl .i64 Tryz.underlying3 _ (C2.out W hW)⟩) hS0 ?_
          (try simp only [Act.put, List.getElem_toArray, List.getElem_cons_zero, List.getElem_cons_succ, List.setIfInBounds_toArray, List.set_cons_zero, List.set_cons_succ])
          refine wpAnyH_take (i := 9) (v := .int .i64 ((bitL 32 (xl ^^^ xf) q : Nat) : Int)) rfl (by kernel_rfl) (by kernel_rfl) (by kernel_rfl) (fun _ _ _ h => h) (Or.inl ⟨rfl, fun _ _ => exec_xor _ _ _ _ rfl _ _ rfl rfl _ HX.out⟩) hS0 ?_
          (try simp only [Act.put, List.getElem_toArray, List.getElem_cons_zero, List.getElem_cons_succ, List.setIfInBounds_toArray, List.set_cons_zero, List.set_cons_succ])
          refine wpAnyH_ready (rs := [10]) (by kernel_rfl) (by simp) (AllReadyH.cons rfl (fun K hK => ?_) AllReadyH.nil)
          (try simp only [Act.put, List.getElem_toArray, List.getElem_cons_zero, List.getElem_cons_succ, List.setIfInBounds_toArray, List.set_cons_zero, List.set_cons_succ])
          refine Eq.mpr (if_pos (by rfl)) ?_
          refine wp_bs 63 _ rfl (.int .i64 ((bitL 32 (xl ^^^ xf) q : Nat) : Int)) rfl #[.int .i64 ((bitL 32 (xl ^^^ xf) q : Nat) : Int)] 3 (bs1 _ _) ?_
          (try simp only [Act.put, List.getElem_toArray, List.getElem_cons_zero, List.getElem_cons_succ, List.setIfInBounds_toArray, List.set_cons_zero, List.set_cons_succ])
          refine hK.out _ _ (hS0.alloc (Nat.le_trans hB6.size hS0.size) _) (fun hS1 => ?_)
          (try simp only [Act.put, List.getElem_toArray, List.getElem_cons_zero, List.getElem_cons_succ, List.setIfInBounds_toArray, List.set_cons_zero, List.set_cons_succ])
          clear hK K
          refine wpAnyH_ready (rs := [11]) (by kernel_rfl) (by simp) (AllReadyH.cons rfl (fun K hK => ?_) AllReadyH.nil)
          (try simp only [Act.put, List.getElem_toArray, List.getElem_cons_zero, List.getElem_cons_succ, List.setIfInBounds_toArray, List.set_cons_zero, List.set_cons_succ])
          refine Eq.mpr (if_pos (by rfl)) ?_
          have ho7 : OwnV wr.drew w6.heap.size 3 u14 q (iv .i64 (bitL 32 (xl ^^^ xf))) := ho6
          have hnew := new_one wr.drew (.int .i64 ((bitL 32 (xl ^^^ xf) q : Nat) : Int)) 3
          refine wp_appV _ _ 63 rfl w6.heap.size 3 (.int .i64 0) 8 Tryz.underlying63 infoI rfl _ q _ rfl (ho7.alloc _) ⟨wr.heap.size, 0, none⟩ 1 1 (fun _ => .int .i64 ((bitL 32 (xl ^^^ xf) q : Nat) : Int)) hnew (fun _ => rfl) rfl (by omega) (by omega) (Nat.le_trans hB6.size hS1.size) ?_
          intro v' w1 ho1 hB1 _
          (try simp only [Act.put, List.getElem_toArray, List.getElem_cons_zero, List.getElem_cons_succ, List.setIfInBounds_toArray, List.set_cons_zero, List.set_cons_succ])
          refine hK.out _ _ (hS1.trans hB1) (fun hS2 => ?_)
          (try simp only [Act.put, List.getElem_toArray, List.getElem_cons_zero, List.getElem_cons_succ, List.setIfInBounds_toArray, List.set_cons_zero, List.set_cons_succ])
          clear hK K
          refine wpAnyH_take (i := 12) (v := v') rfl (by kernel_rfl) (by kernel_rfl) (by kernel_rfl) (fun _ _ _ h => h) (Or.inl ⟨rfl, fun _ _ => exec_assign _ rfl _ rfl⟩) hS2 ?_
          (try simp only [Act.put, List.getElem_toArray, List.getElem_cons_zero, List.getElem_cons_succ, List.setIfInBounds_toArray, List.set_cons_zero, List.set_cons_succ])
          refine wpAnyH_done (by kernel_rfl) ?_ _
          have ho2 := own_step ho1 rfl
          have hB2 := hB6.trans hS2
          clear ho1 hB1 hS0 hS1 hS2 ho6 ho7 hB6
          go_wp2_with fail
          exact ⟨⟨q + 1, by omega, ho2, val_int (by omega), hB2⟩, by simp [intOf]; omega⟩
        · have hq32 : OwnV wr w6.heap.size 3 u14 32 (iv .i64 (bitL 32 (xl ^^^ xf))) := by
            have hq' : q = 32 := by omega
            rw [hq'] at ho6; exact ho6
          obtain ⟨An', cn', rfl, hcn', hLn'⟩ := hq32.lst (by omega)
          obtain ⟨an, rfl, han⟩ := hLn'.some
          have hLr8 := hLr6.below hB6 (Nat.le_refl _)
          have hLk8 := hLk6.below hB6 (Nat.le_refl _)
          have hKk8 := hKk6.below hB6
          have hB8 := hB7.trans (hB6.mono hB7.size)
          clear ho6 hB6 hq32
          go_wp2_with fail
          exact ⟨⟨n + 1, ar, cr, an, cn', by omega, hcr, hcn', rfl, rfl, val_int (by omega), by rw [H1.out]; exact hLr8, by rw [H2.out]; exact hLn', hLk8, hKk8, hB8⟩, by simp [intOf]; omega⟩
    · have Hn : Hid (n = 16) := hid (by omega)
      have Hy : Hid (∀ i, des f b false i = byt (up ip 64 ((fe K (B / 4294967296) (B % 4294967296) n).2 * 2 ^ 32 + (fe K (B / 4294967296) (B % 4294967296) n).1) 64) i) := hid (fun i => by rw [Hdes.out i, Hn.out]; rfl)
      obtain ⟨hxl, hxr⟩ := HF.out n
      clear Hdes hKk hLk
      generalize (fe K (B / 4294967296) (B % 4294967296) n).1 = xl at *
      generalize (fe K (B / 4294967296) (B % 4294967296) n).2 = xr at *
      go_wp2_with (at_builtin; refine wpl_appV rfl _ _ 63 rfl wo.heap.size 3 (.int .i64 0) 8 Tryz.underlying63 infoI rfl _ 0 (iv .i64 fun _ => 0) rfl (OwnV.empty wo wo.heap.size 3 _ (Nat.le_refl _)) ar 32 cr (iv .i64 (bitL 32 xr)) (fun i hi => (hLr.alloc _).at i hi) (fun _ => rfl) rfl (by omega) (by omega) (by simp) ?_)
      intro v5 w5 ho5 hB5 _
      have hBx := ((Below.refl wo.heap.size wo).alloc (Nat.le_refl _) (.cells #[] 3)).trans hB5
      have hLl5 := hLl.below hBx (Nat.le_refl _)
      clear hB5
      go_wp2_with (at_builtin; refine wpl_appV rfl _ _ 63 rfl wo.heap.size 3 (.int .i64 0) 8 Tryz.underlying63 infoI rfl _ (0 + 32) _ rfl ho5 al 32 cl (iv .i64 (bitL 32 xl)) (fun i hi => hLl5.at i hi) (fun _ => rfl) rfl (by omega) (by omega) hBx.size ?_)
      intro v6 w6 ho6 hB6 _
      have hBy := hBx.trans hB6
      have hBB := hB.trans (hBy.mono hB.size)
      have ho64 : OwnV w6 wo.heap.size 3 v6 64 (iv .i64 (bitL 64 (xr * 2 ^ 32 + xl))) := ho6.ext (fun i hi => (join64 xr xl i hi).trans (ivx (half_join xr xl i hxl hi)))
      clear ho5 ho6 hB6 hBx hBy hLl5 hLl hLr hB
      generalize xr * 2 ^ 32 + xl = y at *
      rcases ho64.form with ⟨_, h0⟩ | ⟨gb, capb, curb, rfl, _, hgb, hcapb, hbb, hcb⟩
      · omega
      have hbb1 := hbb.alloc (.cells (row 64 (iv .i64 fun _ => 0)) 3)
      have hbo := Blk.fresh w6 3 (row 64 (iv .i64 fun _ => 0))
      have hBo := hBB.alloc hBB.size (.cells (row 64 (iv .i64 fun _ => 0)) 3)
      have hwl : w.heap.size ≤ w6.heap.size := hBB.size
      clear ho64 hbb hBB
      go_wp2_with (with_reducible refine wpl_mk rfl 63 _ _ rfl (.int .i64 64) (.int .i64 64) rfl rfl _ _ (mk64 _) ?_)
      generalize w6.alloc (.cells (row 64 (iv .i64 fun _ => 0)) 3) = w7 at *
      generalize w6.heap.size = go at *
      have Hcb := hid hcb
      clear hcb
      generalize Value.bool (decide ((n : Int) < 16)) = vb at *
      generalize Value.int .i64 (n : Int) = vn at *
      clear Hn hn hlt
      go_loopw [18] (fun vi wr => ∃ n : Nat, n ≤ 64 ∧ vi = .int .i64 n ∧ Blk wr go 3 (row 64 (iv .i64 (bitL 64 (up ip 64 y n)))) ∧ Blk wr gb 3 curb ∧ Below w.heap.size w wr) (fun vi _ => 64 - (intOf vi).toNat)
      case atStart => exact ⟨0, by omega, rfl, by rw [iv_ext (g := fun _ => 0) (fun j _ => up_zero y j)]; exact hbo, hbb1, hBo⟩
      case round =>
        clear hbo hbb1 hBo
        rename_i n0
        obtain ⟨n, hn, rfl, hbo, hbb, hB⟩ := hrel
        by_cases hlt : n < 64
        · have hp := ip_range n hlt
          have C1 : Hid (∀ W, Only go wr W → W.cell? ⟨gb, n, none⟩ = some (.int .i64 ((bitL 64 y n : Nat) : Int))) := hid (fun W hW => ((hW.blk hbb (by omega)).cell n).trans (Hcb.out n hlt))
          go_wp2_with fail
          refine wp_region_held_drew (S := fun W => Only go wr W) (by kernel_rfl) (Only.refl _ _).drew (fun hS0 => ?_)
          refine wpAnyH_take (i := 0) (v := .slice (some ⟨go, 0, none⟩) 64 64) rfl (by kernel_rfl) (by kernel_rfl) (by kernel_rfl) (fun _ _ _ h => h) (Or.inl ⟨rfl, fun _ _ => exec_move _ rfl _ rfl⟩) hS0 ?_
          (try simp only [Act.put, List.getElem_toArray, List.getElem_cons_zero, List.getElem_cons_succ, List.setIfInBounds_toArray, List.set_cons_zero, List.set_cons_succ])
          refine wpAnyH_take (i := 1) (v := .int .i64 (n : Int)) rfl (by kernel_rfl) (by kernel_rfl) (by kernel_rfl) (fun _ _ _ h => h) (Or.inl ⟨rfl, fun _ _ => exec_move _ rfl _ rfl⟩) hS0 ?_
          (try simp only [Act.put, List.getElem_toArray, List.getElem_cons_zero, List.getElem_cons_succ, List.setIfInBounds_toArray, List.set_cons_zero, List.set_cons_succ])
          refine wpAnyH_take (i := 4) (v := .slice (some ⟨gb, 0, none⟩) 64 capb) rfl (by kernel_rfl) (by kernel_rfl) (by kernel_rfl) (fun _ _ _ h => h) (Or.inl ⟨rfl, fun _ _ => exec_move _ rfl _ rfl⟩) hS0 ?_
          (try simp only [Act.put, List.getElem_toArray, List.getElem_cons_zero, List.getElem_cons_succ, List.setIfInBounds_toArray, List.set_cons_zero, List.set_cons_succ])
          refine wpAnyH_take (i := 5) (v := .int .i64 (n : Int)) rfl (by kernel_rfl) (by kernel_rfl) (by kernel_rfl) (fun _ _ _ h => h) (Or.inl ⟨rfl, fun _ _ => exec_move _ rfl _ rfl⟩) hS0 ?_
          (try simp only [Act.put, List.getElem_toArray, List.getElem_cons_zero, List.getElem_cons_succ, List.setIfInBounds_toArray, List.set_cons_zero, List.set_cons_succ])
          refine wpAnyH_take (i := 6) (v := .pointer (some ⟨gb, n, none⟩)) rfl (by kernel_rfl) (by kernel_rfl) (by kernel_rfl) (fun _ _ _ h => h) (Or.inl ⟨rfl, fun _ _ => exec_sl01 63 _ _ rfl gb 64 capb rfl .i64 _ rfl n rfl 3 Tryz.underlying63 hlt iI⟩) hS0 ?_
          (try simp only [Act.put, List.getElem_toArray, List.getElem_cons_zero, List.getElem_cons_succ, List.setIfInBounds_toArray, List.set_cons_zero, List.set_cons_succ])
          refine wpAnyH_take (i := 7) (v := .int .i64 ((bitL 64 y n : Nat) : Int)) rfl (by kernel_rfl) (by kernel_rfl) (by kernel_rfl) (fun _ _ _ h => h) (Or.inl ⟨rfl, fun W hW => exec_ld 3 _ rfl _ rfl .i64 Tryz.underlying3 _ (C1.out W hW)⟩) hS0 ?_
          (try simp only [Act.put, List.getElem_toArray, List.getElem_cons_zero, List.getElem_cons_succ, List.setIfInBounds_toArray, List.set_cons_zero, List.set_cons_succ])
          refine wpAnyH_ready (rs := [2]) (by kernel_rfl) (by simp) (AllReadyH.cons rfl (fun K hK => ?_) AllReadyH.nil)
          (try simp only [Act.put, List.getElem_toArray, List.getElem_cons_zero, List.getElem_cons_succ, List.setIfInBounds_toArray, List.set_cons_zero, List.set_cons_succ])
          refine Eq.mpr (if_pos (by rfl)) ?_
          go_simp
          refine (rplace_any _ 64 ip (by decide +kernel) n hlt (by omega) _).mono ?_
          rintro e wx ⟨rfl, q, rfl⟩
          refine hK.out _ _ (show Only go wr _ from hS0) (fun hS1 => ?_)
          (try simp only [Act.put, List.getElem_toArray, List.getElem_cons_zero, List.getElem_cons_succ, List.setIfInBounds_toArray, List.set_cons_zero, List.set_cons_succ])
          clear hK K
          refine wpAnyH_take (i := 3) (v := .int .i64 (((ip n : Nat) : Int) - 1)) rfl (by kernel_rfl) (by kernel_rfl) (by kernel_rfl) (fun _ _ _ h => h) (Or.inl ⟨rfl, fun _ _ => exec_arith .sub (.inr (.inl rfl)) _ _ _ _ rfl ((ip n : Nat) : Int) 1 rfl rfl _ rfl (by omega) (by omega)⟩) hS1 ?_
          (try simp only [Act.put, List.getElem_toArray, List.getElem_cons_zero, List.getElem_cons_succ, List.setIfInBounds_toArray, List.set_cons_zero, List.set_cons_succ])
          refine wpAnyH_take (i := 8) (v := .pointer (some ⟨go, ip n - 1, none⟩)) rfl (by kernel_rfl) (by kernel_rfl) (by kernel_rfl) (fun _ _ _ h => h) (Or.inl ⟨rfl, fun _ _ => exec_sl01 63 _ _ rfl go 64 64 rfl .i64 _ rfl (ip n - 1) (by omega) 3 Tryz.underlying63 (by omega) iI⟩) hS1 ?_
          (try simp only [Act.put, List.getElem_toArray, List.getElem_cons_zero, List.getElem_cons_succ, List.setIfInBounds_toArray, List.set_cons_zero, List.set_cons_succ])
          refine wpAnyH_ready (rs := [9]) (by kernel_rfl) (by simp) (AllReadyH.cons rfl (fun K hK => ?_) AllReadyH.nil)
          (try simp only [Act.put, List.getElem_toArray, List.getElem_cons_zero, List.getElem_cons_succ, List.setIfInBounds_toArray, List.set_cons_zero, List.set_cons_succ])
          refine Eq.mpr (if_pos (by rfl)) ?_
          have hbx : Blk (wr.drew.drewN q) go 3 (row 64 (iv .i64 (bitL 64 (up ip 64 y n)))) := hbo
          have hip : ip n - 1 < 64 := by omega
          refine wp_st 3 _ _ rfl ⟨go, ip n - 1, none⟩ rfl .i64 ((bitL 64 y n : Nat) : Int) rfl iI _ (hbx.vali (ip n - 1) hip) (hbx.free _) ?_
          (try simp only [Act.put, List.getElem_toArray, List.getElem_cons_zero, List.getElem_cons_succ, List.setIfInBounds_toArray, List.set_cons_zero, List.set_cons_succ])
          refine hK.out _ _ (hS1.setCell _ _) (fun hS2 => ?_)
          (try simp only [Act.put, List.getElem_toArray, List.getElem_cons_zero, List.getElem_cons_succ, List.setIfInBounds_toArray, List.set_cons_zero, List.set_cons_succ])
          clear hK K
          refine wpAnyH_done (by kernel_rfl) ?_ _
          have hb2 := hbx.puti (ip n - 1) (bitL 64 y n)
          rw [iv_ext (fun j hj => up_step y n j hlt hj)] at hb2
          have hb3 := hS2.blk hbb (by omega)
          have hB2 := hB.trans (hS2.below (B := w.heap.size) (by omega))
          clear hS0 hS1 hS2 hbx hbo hbb hB
          generalize (wr.drew.drewN q).setCell ⟨go, ip n - 1, none⟩ (.int .i64 ((bitL 64 y n : Nat) : Int)) = wz at *
          go_wp2_with fail
          exact ⟨⟨n + 1, by omega, val_int (by omega), hb2, hb3, hB2⟩, by simp [intOf]; omega⟩
        · go_wp2_with fail
          have hlo : Lst wr 3 (some ⟨go, 0, none⟩) 64 (iv .i64 (bitL 64 (up ip 64 y 64))) := by
            have hn64 : n = 64 := by omega
            rw [hn64] at hbo; exact hbo.lst
          refine (bytes_any _ 64 _ (fun _ => bitL_lt _ _ _) _ hlo).mono ?_
          rintro e w9 ⟨A9, c9, rfl, hc9, hL9, hB9⟩
          have hL9b : Lst w9 5 A9 8 (iv .u8 (des f b false)) := hL9.ext (fun i hi => by unfold iv; rw [Hy.out i, ← b2_end _ i hi])
          go_wp2_with fail
          go_ret
          exact ⟨A9, c9, rfl, hc9, hL9b, hB.trans (hB9.mono hB.size)⟩
set_option linter.unusedSimpArgs false in
set_option maxRecDepth 100000 in
set_option maxHeartbeats 8000000 in
theorem rblock_bwd (A1 A2 : Option Addr) (c1 c2 : Nat) (f b : Nat → Nat) (hf : By8 f) (hb : By8 b) (w : World) (hR1 : Reads w w.heap.size A1 8 f) (hR2 : Reads w w.heap.size A2 8 b) :
    Calls Tryz.prog 57 #[.slice A1 8 c1, .slice A2 8 c2, .bool true] w fun e w' => ∃ A' c', e = .returned (.slice A' 8 c') ∧ 8 ≤ c' ∧ Lst w' 5 A' 8 (iv .u8 (des f b true)) ∧ Below w.heap.size w w' := by
  have Hf := hid hf
  have Hb := hid hb
  clear hf hb
  go_enter Tryz.func57, Tryz.ntmps57
  go_wp2_with fail
  refine (keys_any A1 c1 f Hf.out _ hR1).mono ?_
  rintro e w1 ⟨Ak, ck, V, rfl, hLk, hKk, hB1⟩
  obtain ⟨ak, rfl, hak⟩ := hLk.some
  have hR3 := (hR2.below hB1).more hB1.size
  clear hR1 hR2
  go_wp2_with fail
  refine (bits_any A2 8 c2 b (by omega) (by omega) Hb.out _ hR3).mono ?_
  rintro e w2 ⟨A3, c3, rfl, hc3, hL3, hB2⟩
  have hL3b : Lst w2 3 A3 64 (iv .i64 (bitL 64 (num b 8))) := hL3.ext (fun i hi => ivx (bitL_bits Hb.out i hi))
  clear hL3 hR3
  go_wp2_with fail
  refine (permute_any _ 64 ip (by decide +kernel) A3 64 c3 _ (by omega) (by omega) ip_range _ hL3b).mono ?_
  rintro e w3 ⟨A4, c4, rfl, hc4, hL4, hB3⟩
  have hL4b : Lst w3 3 A4 64 (iv .i64 (bitL 64 (pk ip 64 (num b 8) 64))) := hL4.ext (fun i hi => ivx (bitL_pk ip 64 _ 64 i hi (ip_range i hi)))
  have hLk3 := (hLk.below hB2 (Nat.le_refl _)).below hB3 (Nat.le_refl _)
  have hKk3 := (hKk.below hB2).below hB3
  have hB4 := (hB1.trans (hB2.mono hB1.size))
  have hB5 := hB4.trans (hB3.mono hB4.size)
  have hak3 : ak.block < w3.heap.size := by have := hB2.size; have := hB3.size; omega
  clear hL3b hL4 hLk hKk hB1 hB2 hB3 hB4 hc3 hak
  have hP : pk ip 64 (num b 8) 64 < 18446744073709551616 := pk_lt ip 64 (num b 8) 64
  obtain ⟨B, HBe⟩ : ∃ B, Hid (pk ip 64 (num b 8) 64 = B) := ⟨_, hid rfl⟩
  rw [HBe.out] at hL4b hP
  obtain ⟨Bk, HBk⟩ : ∃ Bk, Hid (pk pc1 64 (num f 8) 56 = Bk) := ⟨_, hid rfl⟩
  rw [HBk.out] at hKk3
  obtain ⟨K, HK⟩ : ∃ K : Nat → Nat, Hid (∀ i, i < 16 → K i = rkOf Bk (15 - i)) := ⟨fun i => rkOf Bk (15 - i), hid (fun _ _ => rfl)⟩
  have Hdes : Hid (∀ i, des f b true i = byt (fin (fe K (B / 4294967296) (B % 4294967296) 16)) i) := hid (fun i => by
    show byt (blk (kk f true) (num b 8)) i = _
    rw [blk_ext _ (fun j hj => (show kk f true j = K j by rw [HK.out j hj, ← HBk.out]; rfl))]
    unfold blk
    rw [HBe.out])
  obtain ⟨a4, rfl, ha4⟩ := hL4b.some
  have t1 : (32 : Int) ≤ (c4 : Int) := by omega
  have t2 : ¬ c4 = 32 := by omega
  have t3 : (64 : Int) ≤ (c4 : Int) := by omega
  have hLl : Lst w3 3 (some a4) 32 (iv .i64 (bitL 32 (fe K (B / 4294967296) (B % 4294967296) 0).1)) := (hL4b.less (by omega)).ext (fun i hi => ivx (half_left B i hi))
  have hLr : Lst w3 3 (some ⟨a4.block, a4.off + 32, none⟩) 32 (iv .i64 (bitL 32 (fe K (B / 4294967296) (B % 4294967296) 0).2)) := (hL4b.cut 32 (by omega)).ext (fun i hi => ivx (half_right B i hi))
  have HF := hid (fun i => fe_lt K (l := B / 4294967296) (r := B % 4294967296) (by omega) (by omega) i)
  clear hL4b
  go_wp2_with fail
  go_loopw [9, 10, 11] (fun vl vr vn wr => ∃ (n : Nat) (al : Addr) (cl : Nat) (ar : Addr) (cr : Nat), n ≤ 16 ∧ 32 ≤ cl ∧ 32 ≤ cr ∧ vl = .slice (some al) 32 cl ∧ vr = .slice (some ar) 32 cr ∧ vn = .int .i64 n ∧ Lst wr 3 (some al) 32 (iv .i64 (bitL 32 (fe K (B / 4294967296) (B % 4294967296) n).1)) ∧ Lst wr 3 (some ar) 32 (iv .i64 (bitL 32 (fe K (B / 4294967296) (B % 4294967296) n).2)) ∧ Lst wr 63 (some ak) 16 V ∧ Kys wr Bk 16 V ∧ Below w.heap.size w wr) (fun _ _ vn _ => 16 - (intOf vn).toNat)
  case atStart => exact ⟨0, a4, c4, ⟨a4.block, a4.off + 32, none⟩, c4 - 32, by omega, by omega, by omega, rfl, rfl, rfl, hLl, hLr, hLk3, hKk3, hB5⟩
  case round =>
    clear hLl hLr hLk3 hKk3 hB5 hak3 ha4
    obtain ⟨n, al, cl, ar, cr, hn, hcl, hcr, rfl, rfl, rfl, hLl, hLr, hLk, hKk, hB⟩ := hrel
    rename World => wo
    by_cases hlt : n < 16
    · obtain ⟨An, cn, hV1, hcn, hLn⟩ := hKk n hlt
      obtain ⟨Am, cm, hV2, hcm, hLm⟩ := hKk (15 - n) (by omega)
      have KC1 : Hid (wo.cell? (ak.add n) = some (.slice An 48 cn)) := hid ((hLk.at n hlt).trans (by rw [hV1]))
      have KC2 : Hid (wo.cell? (ak.add (15 - n)) = some (.slice Am 48 cm)) := hid ((hLk.at (15 - n) (by omega)).trans (by rw [hV2]))
      obtain ⟨hxl, hxr⟩ := HF.out n
      have H1 : Hid ((fe K (B / 4294967296) (B % 4294967296) (n + 1)).1 = (fe K (B / 4294967296) (B % 4294967296) n).2) := hid rfl
      have H2 : Hid ((fe K (B / 4294967296) (B % 4294967296) (n + 1)).2 = (fe K (B / 4294967296) (B % 4294967296) n).1 ^^^ ff (fe K (B / 4294967296) (B % 4294967296) n).2 (K n)) := hid rfl
      have HKn := hid (HK.out n hlt)
      generalize (fe K (B / 4294967296) (B % 4294967296) n).1 = xl at *
      generalize (fe K (B / 4294967296) (B % 4294967296) n).2 = xr at *
      go_wp2_with (first
        | (with_reducible refine wpl_sl1 rfl 131 _ _ rfl ak 16 ck rfl .i64 _ rfl n rfl 63 Tryz.underlying131 hlt iSI2 ?_)
        | (with_reducible refine wpl_lds rfl 63 _ rfl _ rfl 3 Tryz.underlying63 _ KC1.out ?_)
        | (with_reducible refine wpl_sl1 rfl 131 _ _ rfl ak 16 ck rfl .i64 _ rfl (15 - n) (by omega) 63 Tryz.underlying131 (by omega) iSI2 ?_)
        | (with_reducible refine wpl_lds rfl 63 _ rfl _ rfl 3 Tryz.underlying63 _ KC2.out ?_))
      refine (mix_any (some ar) Am cr cm (bitL 32 xr) (bitL 48 (rkOf Bk (15 - n))) (fun _ _ => bitL_lt _ _ _) (fun _ _ => bitL_lt _ _ _) _ hLr hLm).mono ?_
      rintro e w6 ⟨Af, cf, rfl, hcf, hLf0, hB6⟩
      have hLf : Lst w6 3 Af 32 (iv .i64 (bitL 32 (ff xr (K n)))) := hLf0.ext (fun i hi => ivx ((mix_bitL xr _ i hxr hi).trans (by rw [HKn.out])))
      have hLl6 := hLl.below hB6 (Nat.le_refl _)
      have hLr6 := hLr.below hB6 (Nat.le_refl _)
      have hLk6 := hLk.below hB6 (Nat.le_refl _)
      have hKk6 := hKk.below hB6
      have hB7 := hB.trans (hB6.mono hB.size)
      clear hLf0 hLl hLr hLk hKk hB hB6 KC1 KC2 hLn hLm hV1 hV2
      obtain ⟨af, rfl, haf⟩ := hLf.some
      generalize ff xr (K n) = xf at *
      have HLl6 := hid hLl6
      have HLf := hid hLf
      go_wp2_with fail
      generalize Value.bool (decide ((n : Int) < 16)) = vb at *
      go_loopw [14, 15] (fun vx vq wr => ∃ q : Nat, q ≤ 32 ∧ OwnV wr w6.heap.size 3 vx q (iv .i64 (bitL 32 (xl ^^^ xf))) ∧ vq = .int .i64 q ∧ Below w6.heap.size w6 wr) (fun _ vq _ => 32 - (intOf vq).toNat)
      case atStart => exact ⟨0, by omega, OwnV.nil _ _ _ _, rfl, Below.refl _ _⟩
      case round =>
        obtain ⟨q, hq, ho6, rfl, hB6⟩ := hrel
        by_cases hlt2 : q < 32
        · have C1 : Hid (∀ W, Below w6.heap.size wr W → W.cell? (al.add q) = some (.int .i64 ((bitL 32 xl q : Nat) : Int))) := hid (fun W hW => (HLl6.out.below (hB6.trans hW) (Nat.le_refl _)).at q hlt2)
          have C2 : Hid (∀ W, Below w6.heap.size wr W → W.cell? (af.add q) = some (.int .i64 ((bitL 32 xf q : Nat) : Int))) := hid (fun W hW => (HLf.out.below (hB6.trans hW) (Nat.le_refl _)).at q hlt2)
          have HX : Hid (bits .xor .i64 ((bitL 32 xl q : Nat) : Int) ((bitL 32 xf q : Nat) : Int) = ((bitL 32 (xl ^^^ xf) q : Nat) : Int)) := hid (by
            have p1 := bitL_lt 32 xl q
            have p2 := bitL_lt 32 xf q
            rw [i64_xor_nat _ _ (by omega) (by omega), bitL_xor])
          go_wp2_with fail
          refine wp_region_held_drew (S := fun W => Below w6.heap.size wr W) (by kernel_rfl) (Below.refl _ _).drew (fun hS0 => ?_)
          refine wpAnyH_take (i := 0) (v := u14) rfl (by kernel_rfl) (by kernel_rfl) (by kernel_rfl) (fun _ _ _ h => h) (Or.inl ⟨rfl, fun _ _ => exec_move _ rfl _ rfl⟩) hS0 ?_
          (try simp only [Act.put, List.getElem_toArray, List.getElem_cons_zero, List.getElem_cons_succ, List.setIfInBounds_toArray, List.set_cons_zero, List.set_cons_succ])
          refine wpAnyH_take (i := 1) (v := .slice (some al) 32 cl) rfl (by kernel_rfl) (by kernel_rfl) (by kernel_rfl) (fun _ _ _ h => h) (Or.inl ⟨rfl, fun _ _ => exec_move _ rfl _ rfl⟩) hS0 ?_
          (try simp only [Act.put, List.getElem_toArray, List.getElem_cons_zero, List.getElem_cons_succ, List.setIfInBounds_toArray, List.set_cons_zero, List.set_cons_succ])
          refine wpAnyH_take (i := 2) (v := .int .i64 (q : Int)) rfl (by kernel_rfl) (by kernel_rfl) (by kernel_rfl) (fun _ _ _ h => h) (Or.inl ⟨rfl, fun _ _ => exec_move _ rfl _ rfl⟩) hS0 ?_
          (try simp only [Act.put, List.getElem_toArray, List.getElem_cons_zero, List.getElem_cons_succ, List.setIfInBounds_toArray, List.set_cons_zero, List.set_cons_succ])
          refine wpAnyH_take (i := 3) (v := .pointer (some (al.add q))) rfl (by kernel_rfl) (by kernel_rfl) (by kernel_rfl) (fun _ _ _ h => h) (Or.inl ⟨rfl, fun _ _ => exec_sl1 63 _ _ rfl al 32 cl rfl .i64 _ rfl q rfl 3 Tryz.underlying63 hlt2 iI⟩) hS0 ?_
          (try simp only [Act.put, List.getElem_toArray, List.getElem_cons_zero, List.getElem_cons_succ, List.setIfInBounds_toArray, List.set_cons_zero, List.set_cons_succ])
          refine wpAnyH_take (i := 4) (v := .int .i64 ((bitL 32 xl q : Nat) : Int)) rfl (by kernel_rfl) (by kernel_rfl) (by kernel_rfl) (fun _ _ _ h => h) (Or.inl ⟨rfl, fun W hW => exec_ld 3 _ rfl _ rfl .i64 Tryz.underlying3 _ (C1.out W hW)⟩) hS0 ?_
          (try simp only [Act.put, List.getElem_toArray, List.getElem_cons_zero, List.getElem_cons_succ, List.setIfInBounds_toArray, List.set_cons_zero, List.set_cons_succ])
          refine wpAnyH_take (i := 5) (v := .slice (some af) 32 cf) rfl (by kernel_rfl) (by kernel_rfl) (by kernel_rfl) (fun _ _ _ h => h) (Or.inl ⟨rfl, fun _ _ => exec_move _ rfl _ rfl⟩) hS0 ?_
          (try simp only [Act.put, List.getElem_toArray, List.getElem_cons_zero, List.getElem_cons_succ, List.setIfInBounds_toArray, List.set_cons_zero, List.set_cons_succ])
          refine wpAnyH_take (i := 6) (v := .int .i64 (q : Int)) rfl (by kernel_rfl) (by kernel_rfl) (by kernel_rfl) (fun _ _ _ h => h) (Or.inl ⟨rfl, fun _ _ => exec_move _ rfl _ rfl⟩) hS0 ?_
          (try simp only [Act.put, List.getElem_toArray, List.getElem_cons_zero, List.getElem_cons_succ, List.setIfInBounds_toArray, List.set_cons_zero, List.set_cons_succ])
          refine wpAnyH_take (i := 7) (v := .pointer (some (af.add q))) rfl (by kernel_rfl) (by kernel_rfl) (by kernel_rfl) (fun _ _ _ h => h) (Or.inl ⟨rfl, fun _ _ => exec_sl1 63 _ _ rfl af 32 cf rfl .i64 _ rfl q rfl 3 Tryz.underlying63 hlt2 iI⟩) hS0 ?_
          (try simp only [Act.put, List.getElem_toArray, List.getElem_cons_zero, List.getElem_cons_succ, List.setIfInBounds_toArray, List.set_cons_zero, List.set_cons_succ])
          refine wpAnyH_take (i := 8) (v := .int .i64 ((bitL 32 xf q : Nat) : Int)) rfl (by kernel_rfl) (by kernel_rfl) (by kernel_rfl) (fun _ _ _ h => h) (Or.inl ⟨rfl, fun W hW => exec_ld 3 _ rfl _ rfl .i64 Tryz.underlying3 _ (C2.out W hW)⟩) hS0 ?_
          (try simp only [Act.put, List.getElem_toArray, List.getElem_cons_zero, List.getElem_cons_succ, List.setIfInBounds_toArray, List.set_cons_zero, List.set_cons_succ])
          refine wpAnyH_take (i := 9) (v := .int .i64 ((bitL 32 (xl ^^^ xf) q : Nat) : Int)) rfl (by kernel_rfl) (by kernel_rfl) (by kernel_rfl) (fun _ _ _ h => h) (Or.inl ⟨rfl, fun _ _ => exec_xor _ _ _ _ rfl _ _ rfl rfl _ HX.out⟩) hS0 ?_
          (try simp only [Act.put, List.getElem_toArray, List.getElem_cons_zero, List.getElem_cons_succ, List.setIfInBounds_toArray, List.set_cons_zero, List.set_cons_succ])
          refine wpAnyH_ready (rs := [10]) (by kernel_rfl) (by simp) (AllReadyH.cons rfl (fun K hK => ?_) AllReadyH.nil)
          (try simp only [Act.put, List.getElem_toArray, List.getElem_cons_zero, List.getElem_cons_succ, List.setIfInBounds_toArray, List.set_cons_zero, List.set_cons_succ])
          refine Eq.mpr (if_pos (by rfl)) ?_
          refine wp_bs 63 _ rfl (.int .i64 ((bitL 32 (xl ^^^ xf) q : Nat) : Int)) rfl #[.int .i64 ((bitL 32 (xl ^^^ xf) q : Nat) : Int)] 3 (bs1 _ _) ?_
          (try simp only [Act.put, List.getElem_toArray, List.getElem_cons_zero, List.getElem_cons_succ, List.setIfInBounds_toArray, List.set_cons_zero, List.set_cons_succ])
          refine hK.out _ _ (hS0.alloc (Nat.le_trans hB6.size hS0.size) _) (fun hS1 => ?_)
          (try simp only [Act.put, List.getElem_toArray, List.getElem_cons_zero, List.getElem_cons_succ, List.setIfInBounds_toArray, List.set_cons_zero, List.set_cons_succ])
          clear hK K
          refine wpAnyH_ready (rs := [11]) (by kernel_rfl) (by simp) (AllReadyH.cons rfl (fun K hK => ?_) AllReadyH.nil)
          (try simp only [Act.put, List.getElem_toArray, List.getElem_cons_zero, List.getElem_cons_succ, List.setIfInBounds_toArray, List.set_cons_zero, List.set_cons_succ])
          refine Eq.mpr (if_pos (by rfl)) ?_
          have ho7 : OwnV wr.drew w6.heap.size 3 u14 q (iv .i64 (bitL 32 (xl ^^^ xf))) := ho6
          have hnew := new_one wr.drew (.int .i64 ((bitL 32 (xl ^^^ xf) q : Nat) : Int)) 3
          refine wp_appV _ _ 63 rfl w6.heap.size 3 (.int .i64 0) 8 Tryz.underlying63 infoI rfl _ q _ rfl (ho7.alloc _) ⟨wr.heap.size, 0, none⟩ 1 1 (fun _ => .int .i64 ((bitL 32 (xl ^^^ xf) q : Nat) : Int)) hnew (fun _ => rfl) rfl (by omega) (by omega) (Nat.le_trans hB6.size hS1.size) ?_
          intro v' w1 ho1 hB1 _
          (try simp only [Act.put, List.getElem_toArray, List.getElem_cons_zero, List.getElem_cons_succ, List.setIfInBounds_toArray, List.set_cons_zero, List.set_cons_succ])
          refine hK.out _ _ (hS1.trans hB1) (fun hS2 => ?_)
          (try simp only [Act.put, List.getElem_toArray, List.getElem_cons_zero, List.getElem_cons_succ, List.setIfInBounds_toArray, List.set_cons_zero, List.set_cons_succ])
          clear hK K
          refine wpAnyH_take (i := 12) (v := v') rfl (by kernel_rfl) (by kernel_rfl) (by kernel_rfl) (fun _ _ _ h => h) (Or.inl ⟨rfl, fun _ _ => exec_assign _ rfl _ rfl⟩) hS2 ?_
          (try simp only [Act.put, List.getElem_toArray, List.getElem_cons_zero, List.getElem_cons_succ, List.setIfInBounds_toArray, List.set_cons_zero, List.set_cons_succ])
          refine wpAnyH_done (by kernel_rfl) ?_ _
          have ho2 := own_step ho1 rfl
          have hB2 := hB6.trans hS2
          clear ho1 hB1 hS0 hS1 hS2 ho6 ho7 hB6
          go_wp2_with fail
          exact ⟨⟨q + 1, by omega, ho2, val_int (by omega), hB2⟩, by simp [intOf]; omega⟩
        · have hq32 : OwnV wr w6.heap.size 3 u14 32 (iv .i64 (bitL 32 (xl ^^^ xf))) := by
            have hq' : q = 32 := by omega
            rw [hq'] at ho6; exact ho6
          obtain ⟨An', cn', rfl, hcn', hLn'⟩ := hq32.lst (by omega)
          obtain ⟨an, rfl, han⟩ := hLn'.some
          have hLr8 := hLr6.below hB6 (Nat.le_refl _)
          have hLk8 := hLk6.below hB6 (Nat.le_refl _)
          have hKk8 := hKk6.below hB6
          have hB8 := hB7.trans (hB6.mono hB7.size)
          clear ho6 hB6 hq32
          go_wp2_with fail
          exact ⟨⟨n + 1, ar, cr, an, cn', by omega, hcr, hcn', rfl, rfl, val_int (by omega), by rw [H1.out]; exact hLr8, by rw [H2.out]; exact hLn', hLk8, hKk8, hB8⟩, by simp [intOf]; omega⟩
    · have Hn : Hid (n = 16) := hid (by omega)
      have Hy : Hid (∀ i, des f b true i = byt (up ip 64 ((fe K (B / 4294967296) (B % 4294967296) n).2 * 2 ^ 32 + (fe K (B / 4294967296) (B % 4294967296) n).1) 64) i) := hid (fun i => by rw [Hdes.out i, Hn.out]; rfl)
      obtain ⟨hxl, hxr⟩ := HF.out n
      clear Hdes hKk hLk
      generalize (fe K (B / 4294967296) (B % 4294967296) n).1 = xl at *
      generalize (fe K (B / 4294967296) (B % 4294967296) n).2 = xr at *
      go_wp2_with (at_builtin; refine wpl_appV rfl _ _ 63 rfl wo.heap.size 3 (.int .i64 0) 8 Tryz.underlying63 infoI rfl _ 0 (iv .i64 fun _ => 0) rfl (OwnV.empty wo wo.heap.size 3 _ (Nat.le_refl _)) ar 32 cr (iv .i64 (bitL 32 xr)) (fun i hi => (hLr.alloc _).at i hi) (fun _ => rfl) rfl (by omega) (by omega) (by simp) ?_)
      intro v5 w5 ho5 hB5 _
      have hBx := ((Below.refl wo.heap.size wo).alloc (Nat.le_refl _) (.cells #[] 3)).trans hB5
      have hLl5 := hLl.below hBx (Nat.le_refl _)
      clear hB5
      go_wp2_with (at_builtin; refine wpl_appV rfl _ _ 63 rfl wo.heap.size 3 (.int .i64 0) 8 Tryz.underlying63 infoI rfl _ (0 + 32) _ rfl ho5 al 32 cl (iv .i64 (bitL 32 xl)) (fun i hi => hLl5.at i hi) (fun _ => rfl) rfl (by omega) (by omega) hBx.size ?_)
      intro v6 w6 ho6 hB6 _
      have hBy := hBx.trans hB6
      have hBB := hB.trans (hBy.mono hB.size)
      have ho64 : OwnV w6 wo.heap.size 3 v6 64 (iv .i64 (bitL 64 (xr * 2 ^ 32 + xl))) := ho6.ext (fun i hi => (join64 xr xl i hi).trans (ivx (half_join xr xl i hxl hi)))
      clear ho5 ho6 hB6 hBx hBy hLl5 hLl hLr hB
      generalize xr * 2 ^ 32 + xl = y at *
      rcases ho64.form with ⟨_, h0⟩ | ⟨gb, capb, curb, rfl, _, hgb, hcapb, hbb, hcb⟩
      · omega
      have hbb1 := hbb.alloc (.cells (row 64 (iv .i64 fun _ => 0)) 3)
      have hbo := Blk.fresh w6 3 (row 64 (iv .i64 fun _ => 0))
      have hBo := hBB.alloc hBB.size (.cells (row 64 (iv .i64 fun _ => 0)) 3)
      have hwl : w.heap.size ≤ w6.heap.size := hBB.size
      clear ho64 hbb hBB
      go_wp2_with (with_reducible refine wpl_mk rfl 63 _ _ rfl (.int .i64 64) (.int .i64 64) rfl rfl _ _ (mk64 _) ?_)
      generalize w6.alloc (.cells (row 64 (iv .i64 fun _ => 0)) 3) = w7 at *
      generalize w6.heap.size = go at *
      have Hcb := hid hcb
      clear hcb
      generalize Value.bool (decide ((n : Int) < 16)) = vb at *
      generalize Value.int .i64 (n : Int) = vn at *
      clear Hn hn hlt
      go_loopw [18] (fun vi wr => ∃ n : Nat, n ≤ 64 ∧ vi = .int .i64 n ∧ Blk wr go 3 (row 64 (iv .i64 (bitL 64 (up ip 64 y n)))) ∧ Blk wr gb 3 curb ∧ Below w.heap.size w wr) (fun vi _ => 64 - (intOf vi).toNat)
      case atStart => exact ⟨0, by omega, rfl, by rw [iv_ext (g := fun _ => 0) (fun j _ => up_zero y j)]; exact hbo, hbb1, hBo⟩
      case round =>
        clear hbo hbb1 hBo
        rename_i n0
        obtain ⟨n, hn, rfl, hbo, hbb, hB⟩ := hrel
        by_cases hlt : n < 64
        · have hp := ip_range n hlt
          have C1 : Hid (∀ W, Only go wr W → W.cell? ⟨gb, n, none⟩ = some (.int .i64 ((bitL 64 y n : Nat) : Int))) := hid (fun W hW => ((hW.blk hbb (by omega)).cell n).trans (Hcb.out n hlt))
          go_wp2_with fail
          refine wp_region_held_drew (S := fun W => Only go wr W) (by kernel_rfl) (Only.refl _ _).drew (fun hS0 => ?_)
          refine wpAnyH_take (i := 0) (v := .slice (some ⟨go, 0, none⟩) 64 64) rfl (by kernel_rfl) (by kernel_rfl) (by kernel_rfl) (fun _ _ _ h => h) (Or.inl ⟨rfl, fun _ _ => exec_move _ rfl _ rfl⟩) hS0 ?_
          (try simp only [Act.put, List.getElem_toArray, List.getElem_cons_zero, List.getElem_cons_succ, List.setIfInBounds_toArray, List.set_cons_zero, List.set_cons_succ])
          refine wpAnyH_take (i := 1) (v := .int .i64 (n : Int)) rfl (by kernel_rfl) (by kernel_rfl) (by kernel_rfl) (fun _ _ _ h => h) (Or.inl ⟨rfl, fun _ _ => exec_move _ rfl _ rfl⟩) hS0 ?_
          (try simp only [Act.put, List.getElem_toArray, List.getElem_cons_zero, List.getElem_cons_succ, List.setIfInBounds_toArray, List.set_cons_zero, List.set_cons_succ])
          refine wpAnyH_take (i := 4) (v := .slice (some ⟨gb, 0, none⟩) 64 capb) rfl (by kernel_rfl) (by kernel_rfl) (by kernel_rfl) (fun _ _ _ h => h) (Or.inl ⟨rfl, fun _ _ => exec_move _ rfl _ rfl⟩) hS0 ?_
          (try simp only [Act.put, List.getElem_toArray, List.getElem_cons_zero, List.getElem_cons_succ, List.setIfInBounds_toArray, List.set_cons_zero, List.set_cons_succ])
          refine wpAnyH_take (i := 5) (v := .int .i64 (n : Int)) rfl (by kernel_rfl) (by kernel_rfl) (by kernel_rfl) (fun _ _ _ h => h) (Or.inl ⟨rfl, fun _ _ => exec_move _ rfl _ rfl⟩) hS0 ?_
          (try simp only [Act.put, List.getElem_toArray, List.getElem_cons_zero, List.getElem_cons_succ, List.setIfInBounds_toArray, List.set_cons_zero, List.set_cons_succ])
          refine wpAnyH_take (i := 6) (v := .pointer (some ⟨gb, n, none⟩)) rfl (by kernel_rfl) (by kernel_rfl) (by kernel_rfl) (fun _ _ _ h => h) (Or.inl ⟨rfl, fun _ _ => exec_sl01 63 _ _ rfl gb 64 capb rfl .i64 _ rfl n rfl 3 Tryz.underlying63 hlt iI⟩) hS0 ?_
          (try simp only [Act.put, List.getElem_toArray, List.getElem_cons_zero, List.getElem_cons_succ, List.setIfInBounds_toArray, List.set_cons_zero, List.set_cons_succ])
          refine wpAnyH_take (i := 7) (v := .int .i64 ((bitL 64 y n : Nat) : Int)) rfl (by kernel_rfl) (by kernel_rfl) (by kernel_rfl) (fun _ _ _ h => h) (Or.inl ⟨rfl, fun W hW => exec_ld 3 _ rfl _ rfl .i64 Tryz.underlying3 _ (C1.out W hW)⟩) hS0 ?_
          (try simp only [Act.put, List.getElem_toArray, List.getElem_cons_zero, List.getElem_cons_succ, List.setIfInBounds_toArray, List.set_cons_zero, List.set_cons_succ])
          refine wpAnyH_ready (rs := [2]) (by kernel_rfl) (by simp) (AllReadyH.cons rfl (fun K hK => ?_) AllReadyH.nil)
          (try simp only [Act.put, List.getElem_toArray, List.getElem_cons_zero, List.getElem_cons_succ, List.setIfInBounds_toArray, List.set_cons_zero, List.set_cons_succ])
          refine Eq.mpr (if_pos (by rfl)) ?_
          go_simp
          refine (rplace_any _ 64 ip (by decide +kernel) n hlt (by omega) _).mono ?_
          rintro e wx ⟨rfl, q, rfl⟩
          refine hK.out _ _ (show Only go wr _ from hS0) (fun hS1 => ?_)
          (try simp only [Act.put, List.getElem_toArray, List.getElem_cons_zero, List.getElem_cons_succ, List.setIfInBounds_toArray, List.set_cons_zero, List.set_cons_succ])
          clear hK K
          refine wpAnyH_take (i := 3) (v := .int .i64 (((ip n : Nat) : Int) - 1)) rfl (by kernel_rfl) (by kernel_rfl) (by kernel_rfl) (fun _ _ _ h => h) (Or.inl ⟨rfl, fun _ _ => exec_arith .sub (.inr (.inl rfl)) _ _ _ _ rfl ((ip n : Nat) : Int) 1 rfl rfl _ rfl (by omega) (by omega)⟩) hS1 ?_
          (try simp only [Act.put, List.getElem_toArray, List.getElem_cons_zero, List.getElem_cons_succ, List.setIfInBounds_toArray, List.set_cons_zero, List.set_cons_succ])
          refine wpAnyH_take (i := 8) (v := .pointer (some ⟨go, ip n - 1, none⟩)) rfl (by kernel_rfl) (by kernel_rfl) (by kernel_rfl) (fun _ _ _ h => h) (Or.inl ⟨rfl, fun _ _ => exec_sl01 63 _ _ rfl go 64 64 rfl .i64 _ rfl (ip n - 1) (by omega) 3 Tryz.underlying63 (by omega) iI⟩) hS1 ?_
          (try simp only [Act.put, List.getElem_toArray, List.getElem_cons_zero, List.getElem_cons_succ, List.setIfInBounds_toArray, List.set_cons_zero, List.set_cons_succ])
          refine wpAnyH_ready (rs := [9]) (by kernel_rfl) (by simp) (AllReadyH.cons rfl (fun K hK => ?_) AllReadyH.nil)
          (try simp only [Act.put, List.getElem_toArray, List.getElem_cons_zero, List.getElem_cons_succ, List.setIfInBounds_toArray, List.set_cons_zero, List.set_cons_succ])
          refine Eq.mpr (if_pos (by rfl)) ?_
          have hbx : Blk (wr.drew.drewN q) go 3 (row 64 (iv .i64 (bitL 64 (up ip 64 y n)))) := hbo
          have hip : ip n - 1 < 64 := by omega
          refine wp_st 3 _ _ rfl ⟨go, ip n - 1, none⟩ rfl .i64 ((bitL 64 y n : Nat) : Int) rfl iI _ (hbx.vali (ip n - 1) hip) (hbx.free _) ?_
          (try simp only [Act.put, List.getElem_toArray, List.getElem_cons_zero, List.getElem_cons_succ, List.setIfInBounds_toArray, List.set_cons_zero, List.set_cons_succ])
          refine hK.out _ _ (hS1.setCell _ _) (fun hS2 => ?_)
          (try simp only [Act.put, List.getElem_toArray, List.getElem_cons_zero, List.getElem_cons_succ, List.setIfInBounds_toArray, List.set_cons_zero, List.set_cons_succ])
          clear hK K
          refine wpAnyH_done (by kernel_rfl) ?_ _
          have hb2 := hbx.puti (ip n - 1) (bitL 64 y n)
          rw [iv_ext (fun j hj => up_step y n j hlt hj)] at hb2
          have hb3 := hS2.blk hbb (by omega)
          have hB2 := hB.trans (hS2.below (B := w.heap.size) (by omega))
          clear hS0 hS1 hS2 hbx hbo hbb hB
          generalize (wr.drew.drewN q).setCell ⟨go, ip n - 1, none⟩ (.int .i64 ((bitL 64 y n : Nat) : Int)) = wz at *
          go_wp2_with fail
          exact ⟨⟨n + 1, by omega, val_int (by omega), hb2, hb3, hB2⟩, by simp [intOf]; omega⟩
        · go_wp2_with fail
          have hlo : Lst wr 3 (some ⟨go, 0, none⟩) 64 (iv .i64 (bitL 64 (up ip 64 y 64))) := by
            have hn64 : n = 64 := by omega
            rw [hn64] at hbo; exact hbo.lst
          refine (bytes_any _ 64 _ (fun _ => bitL_lt _ _ _) _ hlo).mono ?_
          rintro e w9 ⟨A9, c9, rfl, hc9, hL9, hB9⟩
          have hL9b : Lst w9 5 A9 8 (iv .u8 (des f b true)) := hL9.ext (fun i hi => by unfold iv; rw [Hy.out i, ← b2_end _ i hi])
          go_wp2_with fail
          go_ret
          exact ⟨A9, c9, rfl, hc9, hL9b, hB.trans (hB9.mono hB.size)⟩
theorem rblock_any (A1 A2 : Option Addr) (c1 c2 : Nat) (f b : Nat → Nat) (back : Bool) (hf : By8 f) (hb : By8 b) (w : World) (hR1 : Reads w w.heap.size A1 8 f) (hR2 : Reads w w.heap.size A2 8 b) :
    Calls Tryz.prog 57 #[.slice A1 8 c1, .slice A2 8 c2, .bool back] w fun e w' => ∃ A' c', e = .returned (.slice A' 8 c') ∧ 8 ≤ c' ∧ Lst w' 5 A' 8 (iv .u8 (des f b back)) ∧ Below w.heap.size w w' := by
  cases back
  · exact rblock_fwd A1 A2 c1 c2 f b hf hb w hR1 hR2
  · exact rblock_bwd A1 A2 c1 c2 f b hf hb w hR1 hR2
end Go.Proofs.YtomeeebiijmnmaaGreatDoor.Des
