/-
  What lockboxref05.Ask returns where no row has it and the draws come to their end.
-/
import Derived.Test.YtomeeebiijmnmaaGreatDoorRefHit
namespace Go.Proofs.YtomeeebiijmnmaaGreatDoor.Bk
open Mem Go.ChangeShapes Go.WideShapes Go.ChangeAt Go.RowKit
theorem any_step {R : List Rw} {p : Rw → Bool} {q : Nat} (hq : q < R.length) : (R.take (q + 1)).any p = ((R.take q).any p || p R[q]) := by
  rw [List.take_succ_eq_append_getElem hq, List.any_append, List.any_cons, List.any_nil, Bool.or_false]
theorem run_cut16 (A : Option Addr) (l c : Nat) (h : 16 ≤ l) (w : World) : (Instr.sliceAt 22 (.slice A l c) (some (.int .i64 16)) none none).run Tryz.prog w = .ok (.slice (cutA A 16 c) (l - 16) (c - 16)) w := by
  have hu : Tryz.prog.underlying 22 = some (.slice (Tryz.prog.elem 22)) := by rw [elem8]; exact Tryz.underlying22
  rw [run_sliceAt_slice w 22 _ _ _ _ hu, run_slice_l w 22 A l c hu .i64 _ (by omega) (by omega), elem8, size8]
  simp only [Result.andThen, sliced, cutA]
  congr 1
/-- how many draws are left, as the book in block g says -/
def tlen (w : World) (g : Nat) : Nat := match w.cell? ⟨g, 1, none⟩ with | some (.slice _ l _) => l | _ => 0
set_option linter.unusedSimpArgs false in
set_option maxRecDepth 100000 in
set_option maxHeartbeats 2000000 in
/-- no row has it, and the draws come to their end -/
theorem rask_end (F : Nat → Nat) (n d Lk : Nat) (R : List Rw) (Ar : Option Addr) (cr : Nat) (At : Option Addr) (ct : Nat) (Ak : Option Addr) (ck : Nat) (key : Nat → Nat) (Ax : Option Addr) (cx : Nat) (x : Nat → Nat) (bk : Bool) (w : World)
    (B0 : Nat) (hB0 : B0 ≤ w.heap.size) (hR : RowsAt w B0 Ar Lk R) (hT : Reads w B0 At (n - d) (fun i => F (d + i))) (hct : n - d ≤ ct) (_hn : n ≤ 100000) (hd : d ≤ n) (hLk : Lk ≤ 1000) (hlen : R.length ≤ 1000) (hkey : Reads w w.heap.size Ak Lk key) (hkb : ∀ i, i < Lk → key i < 256) (hx : Reads w w.heap.size Ax 16 x)
    (hf : R.find? (hitR bk (strF Lk key) x) = none) (j : Nat) (hj : drawTo F n (hit (!bk) R (strF Lk key)) d = (false, j)) (hAr : Ar = none → R.length = 0 ∧ cr = 0) :
    Calls Tryz.prog 35 #[.agg (row 2 (bookC (.slice Ar R.length cr) (.slice At (n - d) ct))), .slice Ak Lk ck, .slice Ax 16 cx, .bool bk] w (RAskOut F n Lk B0 none R j w) := by
  have W1 : Hid (Below w.heap.size w ((w.alloc (.cells (row 2 (bookC (.slice Ar R.length cr) (.slice At (n - d) ct))) 36)).alloc (.cells (row 2 (bookC (.slice none 0 0) (.slice none 0 0))) 36))) := hid (((Below.refl _ _).alloc (Nat.le_refl _) _).alloc (by simp) _)
  have HR0 := hid hR
  have HT0 := hid hT
  have HR := hid (hR.more hB0)
  have HT := hid (hT.more hB0)
  have HK := hid hkey
  have HX := hid hx
  have HN : Hid (∀ i, ∀ hi : i < R.length, hitR bk (strF Lk key) x R[i] = false) := hid (fun i hi => by rw [List.find?_eq_none] at hf; simpa using hf _ (List.getElem_mem hi))
  have HJ := hid hj
  have HAr := hid hAr
  have hg4 : Blk ((w.alloc (.cells (row 2 (bookC (.slice Ar R.length cr) (.slice At (n - d) ct))) 36)).alloc (.cells (row 2 (bookC (.slice none 0 0) (.slice none 0 0))) 36)) w.heap.size 36 (row 2 (bookC (.slice Ar R.length cr) (.slice At (n - d) ct))) := (Blk.fresh _ _ _).alloc _
  have hg8 : Blk ((w.alloc (.cells (row 2 (bookC (.slice Ar R.length cr) (.slice At (n - d) ct))) 36)).alloc (.cells (row 2 (bookC (.slice none 0 0) (.slice none 0 0))) 36)) (w.heap.size + 1) 36 (row 2 (bookC (.slice none 0 0) (.slice none 0 0))) := by
    have := Blk.fresh (w.alloc (.cells (row 2 (bookC (.slice Ar R.length cr) (.slice At (n - d) ct))) 36)) 36 (row 2 (bookC (.slice none 0 0) (.slice none 0 0)))
    simpa using this
  clear hR hT hkey hx hf hj hAr
  go_enter Tryz.func35, Tryz.ntmps35
  go_wp2_with (first
    | (with_reducible refine wpl_alloc rfl 36 rfl _ zRB2 ?_))
  generalize ((w.alloc (.cells (row 2 (bookC (.slice Ar R.length cr) (.slice At (n - d) ct))) 36)).alloc (.cells (row 2 (bookC (.slice none 0 0) (.slice none 0 0))) 36)) = w1 at *
  go_loopw [11] (fun vi wr => ∃ i : Nat, i ≤ R.length ∧ vi = .int .i64 (i : Int) ∧ Blk wr w.heap.size 36 (row 2 (bookC (.slice Ar R.length cr) (.slice At (n - d) ct))) ∧ Blk wr (w.heap.size + 1) 36 (row 2 (bookC (.slice none 0 0) (.slice none 0 0))) ∧ Below w.heap.size w wr) (fun vi _ => R.length - (intOf vi).toNat)
  case atStart => exact ⟨0, by omega, rfl, hg4, hg8, W1.out⟩
  case round =>
    clear hg4 hg8 W1
    obtain ⟨i, hi, rfl, h4, h8, hB⟩ := hrel
    by_cases hlt : i < R.length
    · obtain ⟨adr, hAr, had, cc, hcc, hrc⟩ := HR.out i hlt
      subst hAr
      have hc0 : wr.cell? ⟨w.heap.size, 0, none⟩ = some (.slice (some adr) R.length cr) := h4.cell 0
      have hcc' : Hid (∀ j, j < 3 → wr.cell? ((adr.add (i * 3)).add j) = some (cc j)) := hid (fun j hj => (hB.cell (by rw [add_block, add_block]; exact had)).trans (hcc j hj))
      have HB := hid hB
      have HC := hid hrc
      obtain ⟨Akr, cpr, fk, hk0, hkR, hkB, hkS⟩ := hrc.key
      obtain ⟨Air, cir, hi0, hic, hiR⟩ := hrc.inn
      obtain ⟨Aor, cor, ho0, hoc, hoR⟩ := hrc.out
      have hBA := HB.out.alloc HB.out.size (.cells (row 3 cc) 99)
      have q0 : Hid ((wr.alloc (.cells (row 3 cc) 99)).cell? ⟨wr.heap.size, 0, none⟩ = some (.slice Akr Lk cpr)) := hid (by rw [(Blk.fresh wr 99 (row 3 cc)).cell, row_get _ _ _ (by omega), hk0])
      have HA := hid (Blk.fresh wr 99 (row 3 cc))
      have HKr := hid ((hkR.below hBA).more hBA.size)
      have HKk := hid ((HK.out.below hBA).more hBA.size)
      have HBA := hid hBA
      have Hhit : Hid (∀ bb z, hitR bb (strF Lk key) z R[i] = (eqB Lk fk key && eqB 16 (fr bb R[i]) z)) := hid (fun bb z => by unfold hitR; rw [hkS, strF_eqB hkB hkb])
      have HiR := hid hiR
      have HoR := hid hoR
      have H4A := hid (h4.alloc (.cells (row 3 cc) 99))
      have H8A := hid (h8.alloc (.cells (row 3 cc) 99))
      clear hcc hrc h4 h8 hB hkR hBA hiR hoR
      go_wp2_with (first
        | (with_reducible refine wpl_sl rfl 34 _ _ rfl adr R.length cr rfl .i64 _ rfl i rfl 99 Tryz.underlying34 hlt 3 iRow ?_)
        | (with_reducible refine wpl_val rfl _ (exec_loadSt 99 _ rfl (adr.add (i * 3)) rfl 3 cc hcc'.out _ Tryz.underlying99 iRow) ?_)
        | (with_reducible refine wpl_alloc rfl 99 rfl _ zRow ?_)
        | (with_reducible refine wpl_store_newS rfl 99 _ _ rfl wr _ 3 cc (row_ones HC.out) rfl rfl 99 iRow (row_size _ _) ?_)
        | (with_reducible refine wpl_lds rfl 22 _ rfl ⟨wr.heap.size, 0, none⟩ rfl 5 Tryz.underlying22 _ q0.out ?_))
      generalize wr.alloc (.cells (row 3 cc) 99) = wA at *
      generalize wr.heap.size = gr at *
      refine (same_any Akr Ak Lk cpr ck fk key _ (by omega) HKr.out HKk.out).mono ?_
      rintro e w5 ⟨rfl, hB5⟩
      have HB5 := hid (HBA.out.trans (hB5.mono HBA.out.size))
      have H45 := hid (H4A.out.below hB5 H4A.out.lt)
      have H85 := hid (H8A.out.below hB5 H8A.out.lt)
      have HA5 := hid (HA.out.below hB5 HA.out.lt)
      clear hB5 H4A H8A HA HBA q0 HKr HKk HB
      have hno := HN.out i hlt
      rw [Hhit.out] at hno
      have Hno := hid hno
      clear hno
      cases hek : eqB Lk fk key
      · go_wp2_with fail
        go_round
        case rel => exact ⟨i + 1, by omega, val_int (by omega), H45.out, H85.out, HB5.out⟩
        case measure => simp [intOf]; omega
      · have Hno2 : Hid (eqB 16 (fr bk R[i]) x = false) := hid (by have := Hno.out; rw [hek] at this; simpa using this)
        clear hek Hno
        have q1 : Hid (w5.cell? ⟨gr, 1, none⟩ = some (.slice Air 16 cir)) := hid (by rw [HA5.out.cell, row_get _ _ _ (by omega), hi0])
        have q2 : Hid (w5.cell? ⟨gr, 2, none⟩ = some (.slice Aor 16 cor)) := hid (by rw [HA5.out.cell, row_get _ _ _ (by omega), ho0])
        cases bk
        · go_wp2_with (first
            | ((with_reducible refine wpg_val ?_ _ (exec_ldsl 22 _ rfl ⟨gr, 1, none⟩ rfl 5 Tryz.underlying22 _ q1.out) ?_); exact rfl))
          refine (same_any Air Ax 16 cir cx R[i].x x _ (by omega) ((HiR.out.below HB5.out).more HB5.out.size) ((HX.out.below HB5.out).more HB5.out.size)).mono ?_
          rintro e w6 ⟨rfl, hB6⟩
          rw [show eqB 16 R[i].x x = false from Hno2.out]
          have HB6 := hid (HB5.out.trans (hB6.mono HB5.out.size))
          have H46 := hid (H45.out.below hB6 H45.out.lt)
          have H86 := hid (H85.out.below hB6 H85.out.lt)
          go_wp2_with fail
          go_round
          case rel => exact ⟨i + 1, by omega, val_int (by omega), H46.out, H86.out, HB6.out⟩
          case measure => simp [intOf]; omega
        · go_wp2_with (first
            | ((with_reducible refine wpg_val ?_ _ (exec_ldsl 22 _ rfl ⟨gr, 2, none⟩ rfl 5 Tryz.underlying22 _ q2.out) ?_); exact rfl))
          refine (same_any Aor Ax 16 cor cx R[i].y x _ (by omega) ((HoR.out.below HB5.out).more HB5.out.size) ((HX.out.below HB5.out).more HB5.out.size)).mono ?_
          rintro e w6 ⟨rfl, hB6⟩
          rw [show eqB 16 R[i].y x = false from Hno2.out]
          have HB6 := hid (HB5.out.trans (hB6.mono HB5.out.size))
          have H46 := hid (H45.out.below hB6 H45.out.lt)
          have H86 := hid (H85.out.below hB6 H85.out.lt)
          go_wp2_with fail
          go_round
          case rel => exact ⟨i + 1, by omega, val_int (by omega), H46.out, H86.out, HB6.out⟩
          case measure => simp [intOf]; omega
    · have hltI : ¬ (i : Int) < (R.length : Int) := by omega
      have hc0 : wr.cell? ⟨w.heap.size, 0, none⟩ = some (.slice Ar R.length cr) := h4.cell 0
      have H4 := hid h4
      have H8 := hid h8
      have HB := hid hB
      clear h4 h8 hB
      go_wp2_with fail
      clear hc0
      rename World => wo
      go_loopw [13] (fun _ wr => ∃ (e : Nat) (A' : Option Addr) (c' : Nat), d ≤ e ∧ e ≤ n ∧ Hid (drawTo F n (hit (!bk) R (strF Lk key)) e = (false, j)) ∧ Blk wr w.heap.size 36 (row 2 (bookC (.slice Ar R.length cr) (.slice A' (n - e) c'))) ∧ Hid (Reads w B0 A' (n - e) (fun i => F (e + i))) ∧ n - e ≤ c' ∧ Blk wr (w.heap.size + 1) 36 (row 2 (bookC (.slice none 0 0) (.slice none 0 0))) ∧ Below w.heap.size w wr) (fun _ wr => tlen wr w.heap.size)
      case atStart => exact ⟨d, At, ct, Nat.le_refl _, hd, HJ, H4.out, HT0, hct, H8.out, HB.out⟩
      case round =>
        clear H4 H8 HB
        obtain ⟨e, A', c', hde, hen, HD, h4, HTe, hce, h8, hB⟩ := hrel
        rename World => wp
        have hc1 : wp.cell? ⟨w.heap.size, 1, none⟩ = some (.slice A' (n - e) c') := h4.cell 1
        have Hlen : Hid (tlen wp w.heap.size = n - e) := hid (by unfold tlen; rw [hc1])
        by_cases h16 : 16 ≤ n - e
        · have h16I : ((n - e : Nat) : Int) ≥ 16 := by omega
          have hcut := fun W => run_cut16 A' (n - e) c' (by omega) W
          have hfr := h4.free 1
          have h4' : Blk (wp.setCell ⟨w.heap.size, 1, none⟩ (.slice (cutA A' 16 c') (n - e - 16) (c' - 16))) w.heap.size 36 (row 2 (bookC (.slice Ar R.length cr) (.slice (cutA A' 16 c') (n - e - 16) (c' - 16)))) := by
            have := h4.setCell 1 (.slice (cutA A' 16 c') (n - e - 16) (c' - 16))
            rw [row2] at this ⊢
            exact this
          have h8' := h8.other ⟨w.heap.size, 1, none⟩ (.slice (cutA A' 16 c') (n - e - 16) (c' - 16)) (by simp)
          have hB' := hB.setCell (p := ⟨w.heap.size, 1, none⟩) (Nat.le_refl _) (.slice (cutA A' 16 c') (n - e - 16) (c' - 16))
          have H4 := hid h4'
          have H8 := hid h8'
          have HB := hid hB'
          clear h4 h8 hB h4' h8' hB'
          go_wp2_with fail
          clear hcut hc1 hfr
          generalize wp.setCell ⟨w.heap.size, 1, none⟩ (.slice (cutA A' 16 c') (n - e - 16) (c' - 16)) = wq at *
          have HY : Hid (Reads w w.heap.size A' 16 (fun i => F (e + i))) := hid ((HTe.out.less h16).more hB0)
          have Htk : Hid (hit (!bk) R (strF Lk key) (fun i => F (e + i)) = true) := hid (by
            cases hq : hit (!bk) R (strF Lk key) (fun i => F (e + i))
            · have := HD.out
              rw [drawTo_new (by omega) hq] at this
              cases this
            · rfl)
          go_loopw [14, 15] (fun vt vi wr => ∃ q : Nat, q ≤ R.length ∧ vi = .int .i64 (q : Int) ∧ vt = .bool ((R.take q).any (hitR (!bk) (strF Lk key) (fun i => F (e + i)))) ∧ Blk wr w.heap.size 36 (row 2 (bookC (.slice Ar R.length cr) (.slice (cutA A' 16 c') (n - e - 16) (c' - 16)))) ∧ Blk wr (w.heap.size + 1) 36 (row 2 (bookC (.slice none 0 0) (.slice none 0 0))) ∧ Below w.heap.size w wr) (fun _ vi _ => R.length - (intOf vi).toNat)
          case atStart => exact ⟨0, by omega, rfl, by simp, H4.out, H8.out, HB.out⟩
          case round =>
            clear H4 H8 HB
            obtain ⟨q, hq, rfl, rfl, h4, h8, hB⟩ := hrel
            rename World => wt
            by_cases hlq : q < R.length
            · obtain ⟨tb, Htb⟩ : ∃ tb, Hid ((R.take q).any (hitR (!bk) (strF Lk key) (fun i => F (e + i))) = tb) := ⟨_, hid rfl⟩
              rw [Htb.out]
              obtain ⟨adr, hAr, had, cc, hcc, hrc⟩ := HR.out q hlq
              subst hAr
              have hc0 : wt.cell? ⟨w.heap.size, 0, none⟩ = some (.slice (some adr) R.length cr) := h4.cell 0
              have hcc' : Hid (∀ j, j < 3 → wt.cell? ((adr.add (q * 3)).add j) = some (cc j)) := hid (fun j hj => (hB.cell (by rw [add_block, add_block]; exact had)).trans (hcc j hj))
              have HB := hid hB
              have HC := hid hrc
              obtain ⟨Akr, cpr, fk, hk0, hkR, hkB, hkS⟩ := hrc.key
              obtain ⟨Air, cir, hi0, hic, hiR⟩ := hrc.inn
              obtain ⟨Aor, cor, ho0, hoc, hoR⟩ := hrc.out
              have hBA := HB.out.alloc HB.out.size (.cells (row 3 cc) 99)
              have q0 : Hid ((wt.alloc (.cells (row 3 cc) 99)).cell? ⟨wt.heap.size, 0, none⟩ = some (.slice Akr Lk cpr)) := hid (by rw [(Blk.fresh wt 99 (row 3 cc)).cell, row_get _ _ _ (by omega), hk0])
              have HA := hid (Blk.fresh wt 99 (row 3 cc))
              have HKr := hid ((hkR.below hBA).more hBA.size)
              have HKk := hid ((HK.out.below hBA).more hBA.size)
              have HBA := hid hBA
              have Hhit : Hid (∀ bb z, hitR bb (strF Lk key) z R[q] = (eqB Lk fk key && eqB 16 (fr bb R[q]) z)) := hid (fun bb z => by unfold hitR; rw [hkS, strF_eqB hkB hkb])
              have HiR := hid hiR
              have HoR := hid hoR
              have H4A := hid (h4.alloc (.cells (row 3 cc) 99))
              have H8A := hid (h8.alloc (.cells (row 3 cc) 99))
              clear hcc hrc h4 h8 hB hkR hBA hiR hoR
              go_wp2_with (first
                | (with_reducible refine wpl_sl rfl 34 _ _ rfl adr R.length cr rfl .i64 _ rfl q rfl 99 Tryz.underlying34 hlq 3 iRow ?_)
                | (with_reducible refine wpl_val rfl _ (exec_loadSt 99 _ rfl (adr.add (q * 3)) rfl 3 cc hcc'.out _ Tryz.underlying99 iRow) ?_)
                | (with_reducible refine wpl_alloc rfl 99 rfl _ zRow ?_)
                | (with_reducible refine wpl_store_newS rfl 99 _ _ rfl wt _ 3 cc (row_ones HC.out) rfl rfl 99 iRow (row_size _ _) ?_)
                | (with_reducible refine wpl_lds rfl 22 _ rfl ⟨wt.heap.size, 0, none⟩ rfl 5 Tryz.underlying22 _ q0.out ?_))
              generalize wt.alloc (.cells (row 3 cc) 99) = wA at *
              generalize wt.heap.size = gr at *
              refine (same_any Akr Ak Lk cpr ck fk key _ (by omega) HKr.out HKk.out).mono ?_
              rintro e w5 ⟨rfl, hB5⟩
              have HB5 := hid (HBA.out.trans (hB5.mono HBA.out.size))
              have H45 := hid (H4A.out.below hB5 H4A.out.lt)
              have H85 := hid (H8A.out.below hB5 H8A.out.lt)
              have HA5 := hid (HA.out.below hB5 HA.out.lt)
              clear hB5 H4A H8A HA HBA q0 HKr HKk HB
              cases hek : eqB Lk fk key
              · have Hek := hid hek
                clear hek
                go_wp2_with fail
                go_round
                case rel =>
                  refine ⟨q + 1, by omega, val_int (by omega), ?_, H45.out, H85.out, HB5.out⟩
                  rw [any_step hlq, Htb.out, Hhit.out, Hek.out]; simp
                case measure => simp [intOf]; omega
              · have Hek := hid hek
                clear hek
                have q1 : Hid (w5.cell? ⟨gr, 1, none⟩ = some (.slice Air 16 cir)) := hid (by rw [HA5.out.cell, row_get _ _ _ (by omega), hi0])
                have q2 : Hid (w5.cell? ⟨gr, 2, none⟩ = some (.slice Aor 16 cor)) := hid (by rw [HA5.out.cell, row_get _ _ _ (by omega), ho0])
                cases bk
                · go_wp2_with (first
                    | ((with_reducible refine wpg_val ?_ _ (exec_ldsl 22 _ rfl ⟨gr, 2, none⟩ rfl 5 Tryz.underlying22 _ q2.out) ?_); exact rfl))
                  refine (same_any Aor A' 16 cor c' R[q].y (fun i => F (e + i)) _ (by omega) ((HoR.out.below HB5.out).more HB5.out.size) ((HY.out.below HB5.out).more HB5.out.size)).mono ?_
                  rintro e' w6 ⟨rfl, hB6⟩
                  have HB6 := hid (HB5.out.trans (hB6.mono HB5.out.size))
                  have H46 := hid (H45.out.below hB6 H45.out.lt)
                  have H86 := hid (H85.out.below hB6 H85.out.lt)
                  cases hey : eqB 16 R[q].y (fun i => F (e + i))
                  · have Hey := hid hey
                    clear hey
                    go_wp2_with fail
                    go_round
                    case rel =>
                      refine ⟨q + 1, by omega, val_int (by omega), ?_, H46.out, H86.out, HB6.out⟩
                      rw [any_step hlq, Htb.out, Hhit.out, Hek.out]
                      show Value.bool tb = Value.bool (tb || (true && eqB 16 R[q].y (fun i => F (e + i))))
                      rw [Hey.out]; simp
                    case measure => simp [intOf]; omega
                  · have Hey := hid hey
                    clear hey
                    go_wp2_with fail
                    go_round
                    case rel =>
                      refine ⟨q + 1, by omega, val_int (by omega), ?_, H46.out, H86.out, HB6.out⟩
                      rw [any_step hlq, Htb.out, Hhit.out, Hek.out]
                      show Value.bool true = Value.bool (tb || (true && eqB 16 R[q].y (fun i => F (e + i))))
                      rw [Hey.out]; simp
                    case measure => simp [intOf]; omega
                · go_wp2_with (first
                    | ((with_reducible refine wpg_val ?_ _ (exec_ldsl 22 _ rfl ⟨gr, 1, none⟩ rfl 5 Tryz.underlying22 _ q1.out) ?_); exact rfl))
                  refine (same_any Air A' 16 cir c' R[q].x (fun i => F (e + i)) _ (by omega) ((HiR.out.below HB5.out).more HB5.out.size) ((HY.out.below HB5.out).more HB5.out.size)).mono ?_
                  rintro e' w6 ⟨rfl, hB6⟩
                  have HB6 := hid (HB5.out.trans (hB6.mono HB5.out.size))
                  have H46 := hid (H45.out.below hB6 H45.out.lt)
                  have H86 := hid (H85.out.below hB6 H85.out.lt)
                  cases hey : eqB 16 R[q].x (fun i => F (e + i))
                  · have Hey := hid hey
                    clear hey
                    go_wp2_with fail
                    go_round
                    case rel =>
                      refine ⟨q + 1, by omega, val_int (by omega), ?_, H46.out, H86.out, HB6.out⟩
                      rw [any_step hlq, Htb.out, Hhit.out, Hek.out]
                      show Value.bool tb = Value.bool (tb || (true && eqB 16 R[q].x (fun i => F (e + i))))
                      rw [Hey.out]; simp
                    case measure => simp [intOf]; omega
                  · have Hey := hid hey
                    clear hey
                    go_wp2_with fail
                    go_round
                    case rel =>
                      refine ⟨q + 1, by omega, val_int (by omega), ?_, H46.out, H86.out, HB6.out⟩
                      rw [any_step hlq, Htb.out, Hhit.out, Hek.out]
                      show Value.bool true = Value.bool (tb || (true && eqB 16 R[q].x (fun i => F (e + i))))
                      rw [Hey.out]; simp
                    case measure => simp [intOf]; omega
            · have hlqI : ¬ (q : Int) < (R.length : Int) := by omega
              obtain rfl : q = R.length := by omega
              have hc0 : wt.cell? ⟨w.heap.size, 0, none⟩ = some (.slice Ar R.length cr) := h4.cell 0
              rw [List.take_length, show R.any (hitR (!bk) (strF Lk key) (fun i => F (e + i))) = true from Htk.out]
              have H4 := hid h4
              have H8 := hid h8
              have HB := hid hB
              clear h4 h8 hB
              go_wp2_with fail
              refine ⟨⟨e + 16, cutA A' 16 c', c' - 16, by omega, by omega, hid ?_, ?_, hid ?_, by omega, H8.out, HB.out⟩, ?_⟩
              · rw [← drawTo_old (by omega) Htk.out]; exact HD.out
              · rw [show n - (e + 16) = n - e - 16 by omega]; exact H4.out
              · rw [show n - (e + 16) = n - e - 16 by omega]
                exact (HTe.out.cutA (k := 16) (z := n - e - 16) (cap := c') (by omega) hce).ext (fun i _ => by show F (e + (16 + i)) = F (e + 16 + i); congr 1; omega)
              · rw [Hlen.out]
                have : tlen wt w.heap.size = n - e - 16 := by
                  unfold tlen
                  rw [show wt.cell? ⟨w.heap.size, 1, none⟩ = some (.slice (cutA A' 16 c') (n - e - 16) (c' - 16)) from H4.out.cell 1]
                rw [this]; omega
        · have h16I : ¬ ((n - e : Nat) : Int) ≥ 16 := by omega
          have hje : j = e := by have := HD.out; rw [drawTo_end (by omega)] at this; cases this; rfl
          have Hje := hid hje
          clear hje
          have d4 : ∀ i, i < 2 → wp.cell? ((⟨w.heap.size, 0, none⟩ : Addr).add i) = some (bookC (.slice Ar R.length cr) (.slice A' (n - e) c') i) := fun i hi => by
            rw [add_zero_off]
            exact (h4.cell i).trans (row_get 2 _ i hi)
          go_wp2_with (first
            | (with_reducible refine wpl_val rfl _ (exec_loadSt 36 _ rfl ⟨w.heap.size, 0, none⟩ rfl 2 _ d4 _ Tryz.underlying36 iRB) ?_)
            | (with_reducible refine wpl_store rfl 36 _ _ rfl _ _ rfl rfl 36 _ h8 (iRB' _) (by simp [row_size]) (one2 _ _ _ _ _ _) ?_))
          have hBf := below_setRow' hB (Nat.le_succ w.heap.size) (row 2 (bookC (.slice Ar R.length cr) (.slice A' (n - e) c')))
          rw [Hje.out]
          exact ret_row3 Tryz.results35 rfl (w.heap.size + 1) rfl _ rfl _ rfl 36 2 _ (h8.setRow _) _ Tryz.underlying36 iRB ⟨hBf, Ar, cr, A', c', _, false, by rw [row2]; rfl, (fun W ha => ⟨ha.rows hB0 hBf HR0.out, ha.reads hB0 hBf HTe.out⟩), hce, HAr.out, .inr ⟨rfl, rfl⟩⟩
end Go.Proofs.YtomeeebiijmnmaaGreatDoor.Bk
